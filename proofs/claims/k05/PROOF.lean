import PyProof.Rows.All
import Wide.All
import OpenK.AllK
import Wide.FinOn
import HandS.ForMost
import HandS.Lambda
import HandS.EndTab
import HandS.WordsExc
import HandS.ExcIs
import HandS.ExcOwn
import HandS.Wide
import HandS.IsInst
import HandS.Star
import HandS.WrittenGet
import HandS.DictTup
import HandS.SortInts
import HandS.RaiseMore
import HandS.TupAny
import HandS.Conv
import HandS.Deep
import HandS.Zip
import HandS.More
import HandS.Property
import HandS.IterVal
import HandS.CallLocal
import HandS.TupSets
import PySem.Challenge.RW_ownharm_k05_what_a_part_may_run_and_ask
import KE.KEqSeq
import HandS.Style
import HandS.Walk
import KE.GoesMore
import HandS.ExcInit
import HandS.FStr
import KE.KExcSuper
import HandS.StrMore
import HandS.Small
import HandS.DictComp
import PyProof.ReprHeads
import PyProof.ReprHeadsTuple
import HandS.FStrTup
import HandS.SortOrd
import HandS.SortRule
import PyProof.Rows.SortKeyStr
import HandS.OwnEq
section
set_option Elab.async false
set_option linter.all false
set_option maxRecDepth 100000
set_option maxHeartbeats 2000000
/-! Calls that know that no repr is under way (guards = some []). -/
namespace OH
open PySem PySem.Spec PyProof.Rows L2
/-- a def's promise, for callers around whom no guard stands -/
structure FnG (P : Program) (w : World) (K : PySem.W.Frag) (mg : Str → Option Value) (base : Heap)
    (CX : CXT) (k : Nat) (f : Addr) (fd : FuncData) (ps : List Str) (sp : Sp) : Prop where
  len : ∀ vs H Q E, sp vs H Q E → vs.length = ps.length
  go : ∀ (A : Around) (out : List Env) (s : Shared) (H : Hp) (ar : Args) (us : List Value)
    (vs : List V) (Q : VK) (E : XK), A.guards = some [] → Room k A → Env0 P w K mg base A out s H →
    BindsTo s fd ar (ps.zip us) → Vals vs us → sp vs H Q E →
    codeAny (model P w) A (.call (.ref f) ar) (CR CX out P w H s Q E) s
theorem fnG_fun {P : Program} {w : World} {K : PySem.W.Frag} {mg : Str → Option Value} {base : Heap}
    {x qual : Str} {st : Stmt} {f : Addr} {fd : FuncData} {N ps : List Str} {k : Nat} {sp : Sp}
    (F : Fun K x qual st f fd) (S : FnScope N ps (defScope st))
    (len : ∀ vs H Q E, sp vs H Q E → vs.length = ps.length)
    (body : ∀ (cdv : Value) (A : Around) (out : List Env) (s : Shared) (H : Hp) (vs : List V) (Q : VK) (E : XK),
      (A.deeper (envOfC qual (defScope st) s.heap.objs.size f cdv)).guards = some [] →
      Room k (A.deeper (envOfC qual (defScope st) s.heap.objs.size f cdv)) → sp vs H Q E →
      ∃ t, PSs (cxOf CX0 P w K mg base N qual (defScope st) f cdv A out s H E).nox (defBody st) t ∧
        t { nx := fun _ H' => Q .non H', rt := Q } (start N vs) H) :
    FnG P w K mg base CX0 (k + 1) f fd ps sp := by
  obtain ⟨oc, od, kV, doc, pm, an, cdv, ct, osl, rfl, lk, hcd⟩ := F.ex
  refine ⟨len, fun A out s H ar us vs Q E hg hr e0 hb r hs => ?_⟩
  refine LamX.run_ofS lk hcd S hr e0 hb r (len _ _ _ _ hs) fun hr' => ?_
  obtain ⟨t, h1, h2⟩ := body cdv A out s H vs Q E hg hr' hs
  exact ⟨t, h1.nox, h2⟩
section
variable {X : Cx} {CX : CXT} {k : Nat} {f : Addr} {fd : FuncData} {ps : List Str} {sp : Sp} {E : XK}
  {x : Str} {p pos : Pos} {e : Expr} {es : List Expr} {t : TA}
theorem runG {pins : List (Addr × Obj)} {σ : L2.St} {H : Hp} {s : Shared} {Q : VK} {us : List Value}
    {vs : List V} (F : FnG X.prog X.w X.K X.mg X.base CX k f fd ps sp) (gd : X.A.guards = some [])
    (hr : Room k X.A) (hb : Binds X.K fd ps []) (hx : Passes CX X E) (I : Inv X pins σ H s) (r : Vals vs us)
    (h : sp vs H Q E) : wpAny (model X.prog X.w) X.A (call (.ref f) us) (EP X pins σ Q) X.xe s := by
  have n : (us ++ ([] : List Value)).length = ps.length := by
    rw [List.append_nil, ← r.length]
    exact F.len _ _ _ _ h
  have b := hb s us I.kIn n
  rw [List.append_nil] at b
  refine wpAny_call (codeAny_mono (F.go X.A X.stack s H ⟨us, []⟩ us vs Q E gd hr I.env0 b r h) fun res s2 done => ?_)
  rcases res with er | fl
  · exact hx pins σ H s er s2 I done
  · cases fl with
    | ret u => exact I.after done
    | _ => exact False.elim done
theorem pe_callG (F : FnG X.prog X.w X.K X.mg X.base CX k f fd ps sp) (gd : X.A.guards = some [])
    (hr : Room k X.A) (hg : Gl X x) (hm : X.mg x = some (.ref f)) (hk : PySem.W.keepIn X.K (.ref f) = true)
    (hb : Binds X.K fd ps []) (hx : Passes CX X E) (ha : PA X (e :: es) t)
    (hdb : (x == ("__debug__" : Str)) = false := by decide)
    (he : starEach (e :: es) X.env = (false, eval e X.env) :: starEach es X.env := by rfl)
    (hpl : (backTo pos (starEach es X.env)).any (·.1) = false := by rfl) :
    PE X (.Call (.Name x p) (e :: es) [] pos) (tCall sp [] E t) := by
  constructor
  intro pins s σ H Q I h
  refine wpAny_Call_Name_kw (ld_glob I hg hm ?_ hdb)
  refine PySem.W.callWith_K (h₀ := X.base) I.ok.mod.kin hk ?_ he hpl
  refine thn (ha.run pos pins s σ H _ I h) ?_
  rintro us s1 ⟨vs, H1, I1, r, q⟩
  refine ⟨I1.kIn, runG F gd hr hb hx I1 r ?_⟩
  have z : vs ++ ([] : List V) = vs := List.append_nil vs
  have q' : sp (vs ++ []) H1 Q E := q
  rw [z] at q'
  exact q'
end
/-- the law's call at the very caller, tables of code objects told -/
theorem law_callG {P : Program} {w : World} {K : PySem.W.Frag} {mg mb : Str → Option Value} {k : Nat}
    {fa a : Addr} {cs : List (Addr × Addr)} {fd : FuncData} {x : Str} {sp : Sp} {s₁ : Shared} {vs : List Value}
    {ns : List Int} (KX : K.In s₁.heap) (hns : s₁.heap.Ns mainGlobals mg) (hb : s₁.heap.Ns builtinsNs mb)
    (hbb : ∀ x : Str, x ≠ "__name__" → mb x = bootBuiltins x) (hlim : s₁.heap.NoLimit) (hg : s₁.gens = #[])
    (hT : ∀ p ∈ cs, s₁.heap.get? p.2 = some { cls := .none, data := .fields #[] })
    (nT : ∀ p ∈ cs, K.lookup p.2 = none) (C : ∀ p ∈ cs, PySem.W.CodeHd s₁.heap p.1 p.2)
    (hbm : ∃ (bm : Addr) (ob : Obj), mg "__builtins__" = some (.ref bm) ∧ bm ≠ builtinsNs ∧ s₁.heap.get? bm = some ob ∧
      ob.cls = .type "module" ∧ ob.dict = some builtinsNs ∧ ob.data = .plain)
    (ha : s₁.heap.get? a = some { cls := .type "list", data := .seq vs.toArray }) (hi : IntsAre vs ns)
    (hl : ns.length ≤ sizeLine) (hr : Room k callerA)
    (F : ∀ base : Heap, K.In base → base.Ns mainGlobals mg → (∀ p ∈ cs, LamX.TabB base mg p.1 p.2) →
      FnG P w K mg base CX0 k fa fd [x] sp)
    (hbind : ∀ (s : Shared) (u : Value), BindsTo s fd ⟨[u], []⟩ [(x, u)])
    (hsp : ∀ H : Hp, (∀ p ∈ cs, H p.2 = some (.tbl #[])) → SqL K H a (ns.map V.int) →
      sp [.ref a] H (fun v _ => v = .bl true) fun _ _ _ => False) :
    codeAny (model P w) callerA (.call (.ref fa) ⟨[.ref a], []⟩)
      (fun r s' => r = .ok (.ret (.bool true)) ∧ OldK s₁.heap s'.heap ∧ s'.os = s₁.os ∧ AllBare s'.gens) s₁ := by
  have rv := vals_ints hi
  have nvs := hi.length
  let tb : List Addr := cs.map (·.2)
  have tb_of : ∀ {p}, p ∈ cs → p.2 ∈ tb := fun {p} hp => List.mem_map.mpr ⟨p, hp, rfl⟩
  have tbE : ∀ {b}, b ∈ tb → s₁.heap.get? b = some { cls := .none, data := .fields #[] } := fun {b} hb => by
    obtain ⟨p, hp, e⟩ := List.mem_map.mp hb
    exact e ▸ hT p hp
  have aNt : a ∉ tb := fun z => by
    have q := (tbE z).symm.trans ha
    have q2 : Data.fields #[] = Data.seq vs.toArray _ := congrArg Obj.data (Option.some.inj q)
    exact nomatch q2
  let frz : HO := .frz { cls := .type "list", data := .seq vs.toArray } (.lst (ns.map V.int))
  let H : Hp := fun b => if b ∈ tb then some (.tbl #[]) else if b = a ∧ K.lookup a = none then some frz else none
  have H_tb : ∀ {b}, b ∈ tb → H b = some (.tbl #[]) := fun {b} hb => if_pos hb
  have H_cases : ∀ b o, H b = some o → (b ∈ tb ∧ o = .tbl #[]) ∨ (b = a ∧ K.lookup a = none ∧ o = frz) := fun b o e => by
    by_cases h1 : b ∈ tb
    · exact .inl ⟨h1, (Option.some.inj ((H_tb h1).symm.trans e)).symm⟩
    · have e1 : (if b = a ∧ K.lookup a = none then some frz else none) = some o := (if_neg h1).symm.trans e
      by_cases h2 : b = a ∧ K.lookup a = none
      · rw [if_pos h2] at e1
        exact .inr ⟨h2.1, h2.2, (Option.some.inj e1).symm⟩
      · rw [if_neg h2] at e1
        cases e1
  have okA : ObjOk P w H s₁.heap a frz := ⟨ha, by rw [List.length_map]; exact hl, vs, _, rv, ha⟩
  have hok : HOk P w H s₁.heap := fun b o e => by
    rcases H_cases b o e with ⟨h1, rfl⟩ | ⟨rfl, _, rfl⟩
    · exact tbE h1
    · exact okA
  have hS : SqL K H a (ns.map V.int) := by
    cases hk : K.lookup a with
    | none => exact .inl (.inr ⟨_, (if_neg aNt).trans (if_pos ⟨rfl, hk⟩)⟩)
    | some o =>
      have e := KX a o hk
      rw [ha] at e
      cases e
      exact .inr ⟨_, vs.toArray, _, hk, rfl, rfl, rfl, by rw [List.size_toArray, nvs]; exact hl, by simpa using rv⟩
  -- what is no seq and no empty fields is not tracked
  have off : ∀ {b : Addr} {o : Obj}, s₁.heap.get? b = some o → (∀ vs n, o.data ≠ .seq vs n) → o.data ≠ .fields #[] → H b = none := fun {b o} e h1 h2 => by
    cases q : H b with
    | none => rfl
    | some u =>
      rcases H_cases b u q with ⟨z, _⟩ | ⟨z, _, _⟩
      · rw [tbE z] at e
        cases e
        exact (h2 rfl).elim
      · rw [z, ha] at e
        cases e
        exact (h1 _ _ rfl).elim
  have seen : ∀ {b : Addr} {o : Obj}, s₁.heap.get? b = some o → (∀ vs n, o.data ≠ .seq vs n) → o.data ≠ .fields #[] → (hidT s₁.heap H).get? b = some o := fun e h1 h2 => hidT_get e (off e h1 h2)
  have seenNs : ∀ {b : Addr} {m : Str → Option Value}, s₁.heap.Ns b m → (hidT s₁.heap H).Ns b m := fun {b m} ⟨o, es, ep, e, d, r⟩ =>
    ⟨o, es, ep, seen e (fun _ _ z => by rw [d] at z; exact nomatch z) (fun z => by rw [d] at z; exact nomatch z), d, r⟩
  have kin : K.In (hidT s₁.heap H) := fun b o e => hidT_get (KX b o e) (by
    cases q : H b with
    | none => rfl
    | some u =>
      rcases H_cases b u q with ⟨z, _⟩ | ⟨z, z2, _⟩
      · obtain ⟨p, hp, ep⟩ := List.mem_map.mp z
        have n := nT p hp
        rw [ep, e] at n
        cases n
      · rw [z, z2] at e
        cases e)
  have hM : Mod K mg (hidT s₁.heap H) := by
    obtain ⟨mc, l1, l2⟩ := hlim
    exact ⟨kin, seenNs hns, ⟨mb, seenNs hb, hbb⟩, ⟨mc, seenNs l1, l2⟩⟩
  have TB : ∀ p ∈ cs, LamX.TabB (hidT s₁.heap H) mg p.1 p.2 := fun p hp => by
    have hTp := hT p hp
    constructor
    · obtain ⟨o, us, file, tf, flags, tg, inF, text, tt, e1, r1, r2, r3, rest⟩ := C p hp
      refine ⟨o, us, file, tf, flags, tg, inF, text, tt, seen e1 (fun _ _ z => by rw [r2] at z; exact nomatch z) (fun z => ?_), r1, r2, r3, rest⟩
      rw [r2] at z
      cases z
      simp at r3
    · obtain ⟨bm, ob, b1, b2, b3, b4, b5, b6⟩ := hbm
      refine ⟨bm, ob, b1, b2, fun q => ?_, fun q => ?_, seen b3 (fun _ _ z => by rw [b6] at z; exact nomatch z) (fun z => by rw [b6] at z; exact nomatch z), b4, b5, b6⟩
      · obtain ⟨o, es, ep, e, hd, _⟩ := hns
        rw [q, e] at b3
        cases b3
        rw [hd] at b6
        cases b6
      · rw [q, hTp] at b3
        cases b3
        cases b6
    · intro z
      obtain ⟨o, es, ep, e, hd, _⟩ := hns
      rw [z, hTp] at e
      cases e
      cases hd
  have e0 : Env0 P w K mg (hidT s₁.heap H) callerA [] s₁ H :=
    ⟨rfl, hM, fun _ _ e => of_hidT e, Nat.le_of_eq (hidT_size _ _), trivial, fun b z => absurd (show b ∈ ([] : List Addr) from z) List.not_mem_nil, hok, .of_eq hg⟩
  refine codeAny_mono ((F _ kin (seenNs hns) TB).go callerA [] s₁ H ⟨[.ref a], []⟩ [.ref a] [.ref a] _ _ rfl hr e0 (hbind s₁ (.ref a)) (.cons rfl .nil) (hsp H (fun p hp => H_tb (tb_of hp)) hS)) ?_
  rintro (er | fl) s2 h
  · exact False.elim h
  · obtain ⟨u, rfl⟩ : ∃ u, fl = .ret u := by
      cases fl with
      | ret u => exact ⟨u, rfl⟩
      | _ => exact False.elim h
    obtain ⟨v, H', os, bare, un, hok', r', q⟩ := h
    have q' : v = .bl true := q
    subst q'
    obtain rfl : u = Value.bool true := r'
    have grown : ∀ {b}, b ∈ tb → ∃ more : Array Value, s2.heap.get? b = some { cls := .none, data := .fields more } := fun {b} hb => by
      obtain ⟨more, z⟩ := un.tbls b #[] (H_tb hb)
      exact ⟨_, hok' b _ z⟩
    have kept : ∀ {b o}, b ∉ tb → s₁.heap.get? b = some o → s2.heap.get? b = some o := fun {b o} nb e => by
      cases q : H b with
      | none => exact un.keep b o e q (fun z => nomatch (show b ∈ ([] : List Addr) from z)) (by simp)
      | some u =>
        rcases H_cases b u q with ⟨z, _⟩ | ⟨rfl, _, rfl⟩
        · exact absurd z nb
        · have z2 := un.frzs b _ _ q
          obtain ⟨e2, _⟩ := hok' b _ z2
          rw [ha] at e
          cases e
          exact e2
    refine ⟨rfl, ⟨fun b o e => ?_, fun b o e => ?_⟩, os, bare⟩
    · by_cases hb : b ∈ tb
      · obtain ⟨more, hm⟩ := grown hb
        obtain ⟨p, hp, ep⟩ := List.mem_map.mp hb
        have c1 := ((C p hp).tab (hT p hp)).isCodeTable
        rw [tbE hb] at e
        cases e
        rw [← ep] at hm ⊢
        exact .inr (.inl ⟨c1, rfl, #[], more, rfl, by rw [Array.empty_append]; exact hm⟩)
      · exact .inl (kept hb e)
    · by_cases hb : b ∈ tb
      · obtain ⟨more, hm⟩ := grown hb
        exact ⟨_, hm⟩
      · exact ⟨o, kept hb e⟩
/-- what the head must tell of the law -/
def LawAtG (l : PySem.W.OpenLaw) (w : World) (K : PySem.W.Frag) (k n : Nat) (x : Str) (mg : Str → Option Value) (fa : Addr) (h : Heap) : Prop :=
  ∃ (fd : FuncData) (cs : List (Addr × Addr)) (sp : Sp),
    (∀ p ∈ cs, h.get? p.2 = some { cls := .none, data := .fields #[] } ∧ K.lookup p.2 = none ∧ PySem.W.CodeHd h p.1 p.2) ∧
    (∀ (s : Shared) (u : Value), BindsTo s fd ⟨[u], []⟩ [(x, u)]) ∧
    (∀ (H : Hp) (a : Addr) (ns : List Int), ns.length ≤ n → (∀ z ∈ ns, Builtin.Int.intBits z ≤ 1048576) →
      (∀ p ∈ cs, H p.2 = some (.tbl #[])) → SqL K H a (ns.map V.int) → sp [.ref a] H (fun v _ => v = .bl true) fun _ _ _ => False) ∧
    ∀ base : Heap, K.In base → base.Ns mainGlobals mg → (∀ p ∈ cs, LamX.TabB base mg p.1 p.2) → FnG l.prog w K mg base CX0 k fa fd [x] sp
theorem walk_ofG {l : PySem.W.OpenLaw} {n k : Nat} {q : Program} {loose : List Str} {XP : (Str → Option Value) → Heap → Prop}
    {YP : World → Heap → Prop} {d : DefRec} {K : Params → PySem.W.Frag} {x : Str} (hn : l.most = some n) (hn2 : n ≤ sizeLine)
    (hdf : d.params.defaults = []) (hr : Room k callerA) (hY : ∀ (w : World) (h : Heap), YP w h → (K w.params).In h)
    (F : ∀ (w : World) (mg : Str → Option Value) (fa : Addr) (h : Heap), YP w h → (K w.params).In h → h.Ns mainGlobals mg →
      mg d.name = some (.ref fa) → LawAtG l w (K w.params) k n x mg fa h) :
    PySem.W.WalkO q loose XP YP l.row.toRowW d [] (fun f vs => PySem.call f vs) := by
  refine Att.attach_callB hn hdf fun w s₀ s₁ mg mb fa o pm cd doc a vs ns G Y ho hd hcd hmg hobj hints hlen hbits hg => ?_
  have KX := hY w _ Y
  obtain ⟨fd, cs, sp, hT, hb, hsp, hF⟩ := F w mg fa _ Y KX G.T.g hmg
  exact law_callG KX G.T.g G.T.b G.T.builtins G.T.nolimit hg (fun p hp => (hT p hp).1) (fun p hp => (hT p hp).2.1) (fun p hp => (hT p hp).2.2)
    G.T.bmain hobj hints (Nat.le_trans hlen hn2) hr hF hb (fun H hH hS => hsp H a ns hlen hbits hH hS)
end OH
end
section
set_option Elab.async false
set_option linter.all false
set_option maxRecDepth 100000
set_option maxHeartbeats 2000000
/-! An error that a handler keeps under another name: tracked from there on. -/
namespace OH
open PySem PySem.Spec PyProof.Rows L2
/-- an exception object of the class cls that some name holds -/
def ExI (cls : Value) (a : Addr) : HO := .ext fun h => ∃ (oe : Obj) (vs : Array Value), h.get? a = some oe ∧ Zc cls none oe ∧ oe.data = .fields vs
section
variable {X : Cx} {pins : List (Addr × Obj)} {σ : L2.St} {H : Hp} {s : Shared}
/-- an object that nothing tracked so far is tracked from now on -/
theorem track {a : Addr} {oe : Obj} {o : HO} (I : Inv X pins σ H s) (ha : s.heap.get? a = some oe) (na : H a = none)
    (n0 : X.s_0.heap.get? a = none) (nL : a ≠ X.env.locals) (nc : ∀ v, oe.data ≠ .cell v) (np : ∀ p ∈ X.pn ++ pins, p.1 ≠ a)
    (new : ObjOk X.prog X.w (upd H a o) s.heap a o) : Inv X pins σ (upd H a o) s := by
  have off0 : ∀ {b u}, X.s_0.heap.get? b = some u → b ≠ a := fun {b u} e z => by
    rw [z, n0] at e
    cases e
  have offH : ∀ {b u}, H b = some u → b ≠ a := fun {b u} e => ne_of_none e na
  constructor
  · exact I.ok
  · exact I.os
  · exact I.bare
  · constructor
    · exact I.base.keep
    · exact I.base.slot
    · intro b u e n hx
      exact (upd_ne (off0 e)).trans (I.base.free b u e n hx)
    · exact I.base.there
    · intro b xs e
      have q := I.base.tups b xs e
      exact (upd_ne (offH q)).trans q
    · intro b u v e
      have q := I.base.frzs b u v e
      exact (upd_ne (offH q)).trans q
    · intro b ps e
      obtain ⟨more, q⟩ := I.base.tbls b ps e
      exact ⟨more, (upd_ne (offH q)).trans q⟩
  · exact I.loc
  · exact I.cell
  · exact (upd_ne (Ne.symm nL)).trans I.free
  · intro x c e
    obtain ⟨v, oc, q1, q2⟩ := I.cell x c e
    have z : c ≠ a := fun z => by
      rw [z, ha] at q1
      cases q1
      exact nc _ q2
    exact (upd_ne z).trans (I.freeC x c e)
  · intro p hp
    obtain ⟨p1, p2, p3⟩ := I.pin p hp
    exact ⟨p1, (upd_ne (np p hp)).trans p2, p3⟩
  · intro b u e
    by_cases hb : b = a
    · subst hb
      rw [upd_same] at e
      cases e
      exact new
    · rw [upd_ne hb] at e
      exact (I.hok b u e).stay (fun _ _ _ q => q) (fun c q => (upd_ne (offH q)).trans q) (fun c xs q => (upd_ne (offH q)).trans q)
  · exact I.len
/-- what a handler that keeps its error wishes of an error of the body -/
def wKeep (K : PySem.W.Frag) (c : Value) (i : Nat) (ts : Addr → Value → TS) (D : Ends) : WX := fun cls d σ H =>
  d = none ∧ PySem.W.exmOne K cls c = some true ∧ ∀ a, H a = none →
    ts a cls { nx := fun σ' H' => D.nx (σ'.set i none) (upd H' a (ExI cls a)), rt := fun _ _ => False, bk := fun _ _ => False, ct := fun _ _ => False } (σ.set i (some (.ref a))) H
variable {x n : Str} {c : Value} {i : Nat} {body suite : List Stmt} {b₀ : Stmt} {np pos pos' : Pos} {tb : WX → TS} {ts : Addr → Value → TS}
/-- try: body / except x as n: suite, behind which the error is held -/
theorem ps_try_keep (hs : X.stack = X.env :: X.outer) (hf : X.env.frame = some X.env.locals) (hex : X.ex = []) (hN : X.N.Nodup) (hi : X.N[i]? = some n)
    (hln : X.env.kindOf n = some .local) (hc : Names X x c)
    (hb : ∀ (W : WX) (pn : List (Addr × Obj)) (xe : Value → Shared → Prop), Takes (X.tr pn xe) W → PassesOwn (model X.prog X.w) X.A X.env xe → PSs (X.tr pn xe) body (tb W))
    (hsu : ∀ (a : Addr) (oe : Obj) (cls : Value) (pn : List (Addr × Obj)), Zc cls none oe → (∃ vs, oe.data = .fields vs) → PSs (X.suite a ((a, oe) :: pn)) (b₀ :: suite) (ts a cls)) :
    PS X (.Try body [.ExceptHandler (some (.Name x np)) (some n) (b₀ :: suite) pos'] [] [] pos) (fun D σ H => tb (wKeep X.K c i ts D) D σ H) := by
  constructor
  intro pins s σ H D I h
  have ok := I.ok
  have frm : X.A.frames = some (X.env :: X.outer) := ok.frames.trans (by rw [hs])
  apply wpAny_Try_except
  refine wpAny_mono ((hb (wKeep X.K c i ts D) (X.pn ++ pins)
    (fun e s₁ => wpAny (model X.prog X.w) X.A (noteFrame e X.env)
      (fun _ s₂ => wpAny (model X.prog X.w) X.A (setFlight e none)
        (fun _ s₃ => wpAny (model X.prog X.w) X.A (handleBy e X.env [.ExceptHandler (some (.Name x np)) (some n) (b₀ :: suite) pos']) (SP X pins D) X.xe s₃) X.xe s₂) X.xe s₁)
    ?took PassesOwn.looking).run [] s σ H D (I.toTry _) h) ?went (fun _ _ he => he)
  case went =>
    rintro (_ | _ | _ | u) s1 hsp
    · obtain ⟨σ', H', J, q⟩ := hsp
      exact wpAny_execs_nil ⟨σ', H', J.ofTry ok, q⟩
    · obtain ⟨σ', H', J, q⟩ := hsp
      exact ⟨σ', H', J.ofTry ok, q⟩
    · obtain ⟨σ', H', J, q⟩ := hsp
      exact ⟨σ', H', J.ofTry ok, q⟩
    · obtain ⟨v, σ', H', J, r, q⟩ := hsp
      exact ⟨v, σ', H', J.ofTry ok, r, q⟩
  case took =>
    rintro u s' ⟨a, B, sI, pins', σ', H', cls, d, rfl, J', nb, up, sky, na, os, ag, rfl, hm1, hyes⟩
    have J : Inv X pins σ' H' sI := J'.ofTry ok
    rw [show (X.tr (X.pn ++ pins) _).stack = X.env :: X.outer from hs] at sky
    show wpAny (model X.prog X.w) X.A (noteFrame (.ref a) X.env) _ _ _
    refine Sky.land Zc.steady frm hf sky fun h3 fl3 up3 => ?_
    obtain ⟨oe3, vs3, he3, hz3, hd3⟩ := fl3.there
    have Ba : B.get? a = none := fl3.2.1
    have aNf : a ∉ frs (X.env :: X.outer) := fun hm => by
      obtain ⟨_, o', e', hnf⟩ := fl3.2.2.1.mem hm
      rw [he3] at e'
      cases e'
      exact hnf _ hd3
    have aNs : a ∉ frs X.stack := by
      rw [hs]
      exact aNf
    have nL : a ≠ X.env.locals := fun z => aNf (List.mem_filterMap.mpr ⟨X.env, List.mem_cons_self, hf.trans (congrArg some z.symm)⟩)
    have nF : a ∉ X.fs := fun hm => by
      obtain ⟨en, he, q⟩ := List.mem_filterMap.mp hm
      exact aNf (List.mem_filterMap.mpr ⟨en, List.mem_cons_of_mem _ he, q⟩)
    have gI : sI.heap.get? a = none := by
      cases e : sI.heap.get? a with
      | none => rfl
      | some o => exact absurd ((nb a o e aNs).symm.trans Ba) (fun z => nomatch z)
    have g0 : X.s_0.heap.get? a = none := by
      cases e : X.s_0.heap.get? a with
      | none => rfl
      | some o =>
        obtain ⟨o', q⟩ := J.base.there a o e (by rw [hex]; exact List.not_mem_nil)
        rw [gI] at q
        cases q
    have pNa : ∀ p ∈ X.pn ++ pins, p.1 ≠ a := fun p hp z => by
      have q := (J.pin p hp).1
      rw [z, gI] at q
      cases q
    have J3 : Inv X pins σ' H' { s' with heap := h3 } := J.landed nb fl3.1 (up.trans up3) os ag
    have S3 := J3.suite he3 hd3 na nL nF
    refine wpAny_handleBy_cons (codeAny_handlers_test ?_) (by intro q; cases q)
    have tyA : PySem.W.Looks (model X.prog X.w) h3 (typeOf (.ref a)) cls := fun A Q E s k q => wpAny_typeOf_ref (k _ _ he3) (by rw [hz3.1]; exact q)
    have fit := PySem.W.exm_one (M := model X.prog X.w) J3.kIn tyA hm1
    have named : ∀ {Q : Value → Shared → Prop} {E : Value → Shared → Prop}, Q c { s' with heap := h3 } →
        wpAny (model X.prog X.w) (X.A.mark (some (.ref a))) (eval (.Name x np) X.env) Q E { s' with heap := h3 } := fun {Q E} q => by
      obtain ⟨hg, hdbg, hm | ⟨hm, hv, hnn⟩⟩ := hc
      · exact ld_glob (X := X.suite a ((a, oe3) :: (X.pn ++ pins))) S3 hg hm q hdbg
      · exact ld_blt (X := X.suite a ((a, oe3) :: (X.pn ++ pins))) S3 hg hm hv q hnn hdbg
    refine named (fit.here ?_)
    refine codeAny_handlers_suite_as ?_
    refine HandSPX.lands_againZ fl3 fun h4 fl4 up4 => ?_
    obtain ⟨oe4, vs4, he4, hz4, hd4⟩ := fl4.there
    have J4 : Inv X pins σ' H' { s' with heap := h4 } := J.landed nb fl4.1 ((up.trans up3).trans up4) os ag
    have S4 := J4.suite he4 hd4 na nL nF
    refine store_ok (X := X.suite a ((a, oe4) :: (X.pn ++ pins))) (v := .ref a) S4 hN hi (Or.inl hln) rfl (fun s5 S5 => ?_) (.inr hln)
    refine wpAny_mono ((hsu a oe4 cls (X.pn ++ pins) hz4 ⟨_, hd4⟩).run [] s5 _ H' _ S5 (hyes a na)) ?_ (fun _ _ z => False.elim z)
    rintro (_ | _ | _ | u) s6 hsp
    · obtain ⟨σ6, H6, S6, q6⟩ := hsp
      obtain ⟨g6, n6, _⟩ := S6.pin (a, oe4) (List.mem_append_left _ List.mem_cons_self)
      have T6 := track (o := ExI cls a) (S6.unsuite ok) g6 n6 g0 nL (fun v z => nomatch (hd4.symm.trans z)) pNa
        ⟨⟨oe4, vs4, g6, hz4, hd4⟩, ⟨oe4, g6⟩, fun _ _ ⟨o, v, q, r⟩ k => ⟨o, v, k o q, r⟩⟩
      exact gone_ok T6 hN hi hln fun s7 J7 => ⟨_, _, J7, q6⟩
    all_goals
      first
        | (obtain ⟨_, _, _, q6⟩ := hsp; exact False.elim q6)
        | (obtain ⟨_, _, _, _, _, q6⟩ := hsp; exact False.elim q6)
/-- isinstance(e, c), e an error that is held -/
theorem call_isH {D : Addr} (C : ExcC X.K D) : CallR X (.builtin "isinstance") (fun xs H Q => ∃ (a : Addr) (c : V) (cv : Value) (b : Bool),
    xs = [.ref a, c] ∧ H a = some (ExI (.ref D) a) ∧ (∀ u, RelV c u → u = cv) ∧ PySem.W.kitOne X.K (.ref D) cv = some b ∧ Q (.bl b) H) := by
  rintro pins s σ H xs us Q I r ⟨a, c, cv, b, rfl, hA, hcv, e, q⟩
  obtain ⟨⟨oe, vs, g, hz, hd⟩, _, _⟩ := I.hok a _ hA
  rcases r with _ | ⟨rx, rr⟩
  rcases rr with _ | ⟨rt, rr⟩
  cases rr
  obtain rfl : _ = Value.ref a := rx
  obtain rfl := hcv _ rt
  obtain ⟨oc, od, oda, osl⟩ := oe
  obtain ⟨z1, z2⟩ := hz
  dsimp only at z1 z2 hd
  subst z1 z2 hd
  have at_ : PySem.W.InstAt s.heap a ⟨.ref D, none, .fields vs, osl⟩ D none := ⟨g, rfl, rfl, trivial⟩
  exact PySem.W.kia_one (PySem.W.handS_kitx_exc C.hg C.hk C.hs C.hd C.ha C.hn C.ht C.hm) I.kIn at_ e (fun z => nomatch z)
    fun tk => ⟨.bl b, H, I.kept (t' := tk) fun _ _ z => z, rfl, q⟩
/-- told: found = None / try: a() / except x as e: found = e / return found -/
def TTk (K : PySem.W.Frag) (CS : Addr) : (XK → Hp → VK → Prop) → Hp → VK → Prop := fun tl H Q => ∀ Q' : VK, (∀ v H1, Q .non H1 → Q' v H1) →
  tl (fun cls d H' => d = none ∧ PySem.W.exmOne K cls (.ref CS) = some true ∧ ∀ a, H' a = none → Q (.ref a) (upd H' a (ExI cls a))) H Q'
end
end OH
end
section
set_option Elab.async false
set_option linter.all false
set_option maxRecDepth 100000
set_option maxHeartbeats 4000000
namespace OH
open PySem PySem.Spec PyProof.Rows L2
def top (i : Nat) : Stmt := PySem.Challenge.pw_ownharm_k05_what_a_part_may_run_and_ask.main.body.getD i (.Pass ⟨0, 0, 0, 0⟩)
abbrev s_NoPart___init__ : Stmt := inClass (top 3) 0
abbrev s_is_whole : Stmt := top 9
abbrev s_are_numbers : Stmt := top 10
abbrev s_is_tuple : Stmt := top 11
abbrev s_good_name : Stmt := top 12
abbrev s_all_unlike : Stmt := top 13
abbrev s_children : Stmt := top 16
abbrev s_nodes_in : Stmt := top 17
abbrev s_parts_of : Stmt := top 18
abbrev s_part_called : Stmt := top 19
abbrev s_is_known_name : Stmt := top 29
abbrev s_BodyCheck___init__ : Stmt := inClass (top 30) 0
abbrev s_BodyCheck_allow : Stmt := inClass (top 30) 1
abbrev s_BodyCheck_is_part_body : Stmt := inClass (top 30) 2
abbrev s_BodyCheck_left_behind : Stmt := inClass (top 30) 3
abbrev s_BodyCheck_left_value : Stmt := inClass (top 30) 4
abbrev s_BodyCheck_has_block : Stmt := inClass (top 30) 5
abbrev s_BodyCheck_has_params : Stmt := inClass (top 30) 6
abbrev s_BodyCheck_has_import : Stmt := inClass (top 30) 7
abbrev s_are_imports : Stmt := top 31
abbrev s_is_block : Stmt := top 32
abbrev s_are_blocks : Stmt := top 33
abbrev s_is_function_head : Stmt := top 34
abbrev s_is_door_head : Stmt := top 35
abbrev s_are_heads : Stmt := top 36
abbrev s_is_room_with : Stmt := top 37
abbrev s_good_room : Stmt := top 38
abbrev s_need_room : Stmt := top 40
abbrev s_is_room : Stmt := top 42
abbrev s_need_part : Stmt := top 43
abbrev s_run_names : Stmt := top 44
abbrev s_runs_of : Stmt := top 45
abbrev s_asks_of : Stmt := top 46
abbrev s__law_begun : Stmt := top 48
abbrev s__law_mixed : Stmt := top 49
abbrev s__law_draw : Stmt := top 50
abbrev s__law_pick : Stmt := top 51
abbrev s__law_shuffled : Stmt := top 52
abbrev s__law_small : Stmt := top 53
abbrev s__law_caught : Stmt := top 54
abbrev s__law_signs_of : Stmt := top 55
abbrev s__law_inner_of : Stmt := top 56
abbrev s__law_reading : Stmt := top 57
abbrev s__law_bodies : Stmt := top 58
abbrev s__law_mixed_value : Stmt := top 59
abbrev s__law_mixed_body : Stmt := top 60
abbrev s__law_runner_room : Stmt := top 61
abbrev s__law_led_to : Stmt := top 62
abbrev s__law_asked_in : Stmt := top 63
abbrev s_law : Stmt := top 64
end OH
end
section
set_option Elab.async false
set_option linter.all false
set_option maxRecDepth 100000
set_option maxHeartbeats 8000000
namespace OH
open PySem PySem.Spec PyProof.Rows L2
/-- what stands at the addresses outside S stays -/
def Kept (S : List Addr) (H H' : Hp) : Prop := ∀ q o, H q = some o → q ∉ S → H' q = some o
theorem Kept.refl {S : List Addr} {H : Hp} : Kept S H H := fun _ _ e _ => e
theorem Kept.trans {S : List Addr} {H H' H2 : Hp} (a : Kept S H H') (b : Kept S H' H2) : Kept S H H2 := fun q o e n => b q o (a q o e n) n
theorem Kept.mono {S T : List Addr} {H H' : Hp} (a : Kept S H H') (h : ∀ q ∈ S, q ∈ T) : Kept T H H' := fun q o e n => a q o e fun z => n (h q z)
theorem Kept.upd {S : List Addr} {H H' : Hp} (a : Kept S H H') {p : Addr} {o : HO} (hp : p ∈ S) : Kept S H (upd H' p o) := fun q u e n => by
  have ne : q ≠ p := fun z => n (by rw [z]; exact hp)
  rw [upd_ne ne]
  exact a q u e n
theorem Kept.new {S : List Addr} {H H' : Hp} (a : Kept S H H') {p : Addr} {o : HO} (hp : H' p = none) : Kept S H (L2.upd H' p o) := fun q u e n => by
  have e1 := a q u e n
  rw [upd_ne (ne_of_none e1 hp)]
  exact e1
theorem Kept.same {S : List Addr} {H H' H2 : Hp} (a : Kept S H H') (b : Same H' H2) : Kept S H H2 := fun q u e n => b _ _ (a q u e n)
/-- pairs of whole numbers at addresses -/
inductive PairsAt (H : Hp) : List Addr → List (Int × Int) → Prop where
  | nil : PairsAt H [] []
  | cons {p : Addr} {q : Int × Int} {ps : List Addr} {ws : List (Int × Int)} : H p = some (.tup [.int q.1, .int q.2]) → PairsAt H ps ws → PairsAt H (p :: ps) (q :: ws)
theorem PairsAt.mono {H H' : Hp} {ps : List Addr} {ws : List (Int × Int)} (h : PairsAt H ps ws) (k : ∀ q xs, H q = some (.tup xs) → H' q = some (.tup xs)) : PairsAt H' ps ws := by
  induction h with
  | nil => exact .nil
  | cons a _ ih => exact .cons (k _ _ a) ih
def pairD (q : Int × Int) : PyData := .tuple [.int q.1, .int q.2]
theorem PairsAt.dp {K : PySem.W.Frag} {H : Hp} {ps : List Addr} {ws : List (Int × Int)} (h : PairsAt H ps ws) : DpAll K H (ps.map V.ref) (ws.map pairD) := by
  induction h with
  | nil => exact .nil
  | cons a _ ih => exact .cons (.tup (SqT.of a) (.cons (.int _) (.cons (.int _) .nil))) ih
theorem op_inDT {X : Cx} (hu : X.A.units + 65 < cLine) : OpR X (compareOp .In) (fun x y H Q => ∃ d ds, Dp X.K H x d ∧ Dp X.K H y (.tuple ds) ∧ SeqAt.shaped d = true ∧ SeqAt.shaped (.list ds) = true ∧ Q (.bl (ds.any fun z => PyData.eqv z d)) H) := by
  intro pins s σ H x y v u Q I rx ry h
  obtain ⟨d, ds, hd, he, sd, se, q⟩ := h
  obtain ⟨as, r1⟩ := Dp.reads I d x v hd rx
  obtain ⟨bs, r2⟩ := Dp.reads I (.tuple ds) y u he ry
  exact SeqAt.in_tuple_reads r2 r1 (SeqAt.canLay_of_shaped se) (SeqAt.canLay_of_shaped sd) (room_in_shaped sd hu) ⟨.bl (ds.any fun y => y.eqv d), H, I, rfl, q⟩
theorem any_pair (ws : List (Int × Int)) (a b : Int) : ((ws.map pairD).any fun z => PyData.eqv z (pairD (a, b))) = decide ((a, b) ∈ ws) := by
  induction ws with
  | nil => rfl
  | cons w ws ih =>
    obtain ⟨c, d⟩ := w
    rw [List.map_cons, List.any_cons, ih]
    have e : PyData.eqv (pairD (c, d)) (pairD (a, b)) = (decide (c = a) && decide (d = b)) := by
      show (decide (c = a) && (decide (d = b) && true)) = _
      rw [Bool.and_true]
    rw [e]
    by_cases e1 : (c, d) = (a, b)
    · cases e1
      rw [decide_eq_true rfl, decide_eq_true rfl, decide_eq_true (List.mem_cons_self ..)]
      rfl
    · have ez : (decide (c = a) && decide (d = b)) = false := by
        by_cases z : c = a
        · by_cases z2 : d = b
          · exact absurd (by rw [z, z2]) e1
          · rw [decide_eq_false z2, Bool.and_false]
        · rw [decide_eq_false z]
          rfl
      rw [ez, Bool.false_or]
      by_cases m : (a, b) ∈ ws
      · rw [decide_eq_true m, decide_eq_true (List.mem_cons_of_mem _ m)]
      · rw [decide_eq_false m, decide_eq_false (fun z => (List.mem_cons.mp z).elim (fun y => e1 y.symm) m)]
theorem shaped_pair (a b : Int) : SeqAt.shaped (pairD (a, b)) = true := by rfl
theorem shaped_pairs (ws : List (Int × Int)) : SeqAt.shaped (.list (ws.map pairD)) = true := by
  have h1 : PyData.canLayAll0 (ws.map pairD) = true := by
    induction ws with
    | nil => rfl
    | cons w ws ih =>
      show (true && PyData.canLayAll0 (ws.map pairD)) = true
      rw [ih]
      rfl
  have h2 : PyData.depthAll (ws.map pairD) ≤ 1 := by
    clear h1
    induction ws with
    | nil => exact Nat.zero_le _
    | cons w ws ih =>
      show max (PyData.depth (pairD w)) (PyData.depthAll (ws.map pairD)) ≤ 1
      exact Nat.max_le.mpr ⟨Nat.le_refl 1, ih⟩
  show (PyData.canLayAll0 (ws.map pairD) && decide (PyData.depthAll (ws.map pairD) + 1 ≤ 64)) = true
  rw [h1, decide_eq_true (by omega)]
  rfl
theorem sadd {H H' : Hp} (s : Same H H') {p : Addr} {o : HO} (n : H' p = none) : Same H (upd H' p o) := fun b u e => by
  have e1 := s b u e
  rw [upd_ne (ne_of_none e1 n)]
  exact e1
theorem Room_u65 {k : Nat} {A : Around} (h : L2.Room k A) : A.units + 65 < cLine := by
  have := h.un
  omega
/-- the names of the top and of the built-ins that the text reads -/
structure Txt (K : PySem.W.Frag) (mg : Str → Option Value) : Prop where
  nIsi : mg "isinstance" = none
  nInt : mg "int" = none
  nBool : mg "bool" = none
  nTuple : mg "tuple" = none
  nStr : mg "str" = none
  nLen : mg "len" = none
  nAll : mg "all" = none
  nList : mg "list" = none
  nAbs : mg "abs" = none
  nRange : mg "range" = none
  nZip : mg "zip" = none
  nSorted : mg "sorted" = none
  nRepr : mg "repr" = none
  gMod : ∃ t, mg "MODULUS" = some (.int 10000 t)
/-- a value that the law hands to the program -/
def PlV (H : Hp) : V → Prop
  | .non => True
  | .bl _ => True
  | .int _ => True
  | .str _ => True
  | .ref a => (∃ xs, H a = some (.tup xs)) ∨ (∃ xs, H a = some (.lst xs))
  | _ => False
theorem PlV.same {H H' : Hp} {v : V} (h : PlV H v) (e : Same H H') : PlV H' v := by
  cases v with
  | ref a =>
    rcases h with ⟨xs, h⟩ | ⟨xs, h⟩
    · exact .inl ⟨xs, e _ _ h⟩
    · exact .inr ⟨xs, e _ _ h⟩
  | byt _ => exact h.elim
  | flt _ => exact h.elim
  | ty _ => exact h.elim
  | _ => trivial
/-- the name of its type -/
def tyn (H : Hp) : V → String
  | .non => "NoneType"
  | .bl _ => "bool"
  | .int _ => "int"
  | .str _ => "str"
  | .ref a => match H a with
    | some (.tup _) => "tuple"
    | _ => "list"
  | _ => "list"
theorem tyX {K : PySem.W.Frag} {H : Hp} {v : V} (h : PlV H v) : TyX K H v (.type (tyn H v)) := by
  cases v with
  | non => exact .base .non
  | bl b => exact .base (.bl b)
  | int i => exact .base (.int i)
  | str x => exact .base (.str x)
  | ref a =>
    rcases h with ⟨xs, h⟩ | ⟨xs, h⟩
    · have e : tyn H (.ref a) = "tuple" := by
        show (match H a with | some (.tup _) => "tuple" | _ => "list") = "tuple"
        rw [h]
      rw [e]
      exact .base (.tup h)
    · have e : tyn H (.ref a) = "list" := by
        show (match H a with | some (.tup _) => "tuple" | _ => "list") = "list"
        rw [h]
      rw [e]
      exact .base (.lst h)
  | _ => exact h.elim
/-- a whole from lo to hi -/
def isW (lo hi : Int) : V → Bool
  | .int i => decide (lo ≤ i) && decide (i ≤ hi)
  | _ => false
def spWhole : Sp := fun vs H Q _ => ∃ (v : V) (lo hi : Int), vs = [v, .int lo, .int hi] ∧ PlV H v ∧ Q (.bl (isW lo hi v)) H
/-- a tuple of lo to hi items -/
def isT (H : Hp) (lo hi : Int) : V → Bool
  | .ref a => match H a with
    | some (.tup xs) => decide (lo ≤ (xs.length : Int)) && decide ((xs.length : Int) ≤ hi)
    | _ => false
  | _ => false
def spTuple : Sp := fun vs H Q _ => ∃ (v : V) (lo hi : Int), vs = [v, .int lo, .int hi] ∧ PlV H v ∧ Q (.bl (isT H lo hi v)) H
section
variable {P : Program} {w : World} {K : PySem.W.Frag} {mg : Str → Option Value} {base : Heap}
theorem scWhole : FnScope ["value", "low", "high"] ["value", "low", "high"] (defScope s_is_whole) := ⟨rfl, rfl, rfl, by decide +kernel, rfl, by decide +kernel, by decide +kernel⟩
theorem ok_whole {f : Addr} {fd : FuncData} (F : Fun K "is_whole" "is_whole" s_is_whole f fd) (T : Txt K mg) : FnOk P w K mg base CX0 1 f fd ["value", "low", "high"] spWhole := by
  refine F.ok scWhole (fun vs H Q E h => ?_) (fun cdv A outer s H vs Q E hr h => ?_)
  · obtain ⟨v, lo, hi, rfl, _⟩ := h
    rfl
  · obtain ⟨v, lo, hi, rfl, hp, k⟩ := h
    refine ⟨_, pss_one (ps_ret (pe_and (pe_callB call_isi (by rfl) T.nIsi (by decide +kernel) (pa_cons (pv 0) (pa_cons (pe_bltn (v := .ty "int") (by rfl) T.nInt (by decide +kernel) rfl) pa_nil)))
      (pe_and (pe_not (pe_callB call_isi (by rfl) T.nIsi (by decide +kernel) (pa_cons (pv 0) (pa_cons (pe_bltn (v := .ty "bool") (by rfl) T.nBool (by decide +kernel) rfl) pa_nil))))
        (pe_one (pe_chain op_le op_le (pv 1) (pv 0) (pv 2)))))), ?_⟩
    cases v with
    | int i =>
      refine ⟨_, rfl, _, _, _, _, _, rfl, .ty "int", .base (.int i), kit_ty (r := true) (by decide +kernel), _, rfl, iteT ?_⟩
      refine ⟨_, rfl, _, _, _, _, _, rfl, .ty "bool", .base (.int i), kit_ty (r := false) (by decide +kernel), _, rfl, _, rfl, iteT ?_⟩
      refine ⟨_, rfl, _, rfl, _, _, rfl, rfl, _, rfl, ?_⟩
      refine ite2 (fun h1 => ?_) (fun h1 => ?_)
      · refine ⟨_, rfl, _, _, rfl, rfl, ?_⟩
        have e : isW lo hi (.int i) = decide (i ≤ hi) := by
          show (decide (lo ≤ i) && decide (i ≤ hi)) = _
          rw [h1, Bool.true_and]
        rw [e] at k
        exact k
      · have e : isW lo hi (.int i) = false := by
          show (decide (lo ≤ i) && decide (i ≤ hi)) = _
          rw [Bool.eq_false_iff.mpr h1, Bool.false_and]
        rw [e] at k
        exact k
    | bl b =>
      refine ⟨_, rfl, _, _, _, _, _, rfl, .ty "int", .base (.bl b), kit_ty (r := true) (by decide +kernel), _, rfl, iteT ?_⟩
      exact ⟨_, rfl, _, _, _, _, _, rfl, .ty "bool", .base (.bl b), kit_ty (r := true) (by decide +kernel), _, rfl, _, rfl, iteF k⟩
    | non => exact ⟨_, rfl, _, _, _, _, _, rfl, .ty "int", .base .non, kit_ty (r := false) (by decide +kernel), _, rfl, iteF k⟩
    | str x => exact ⟨_, rfl, _, _, _, _, _, rfl, .ty "int", .base (.str x), kit_ty (r := false) (by decide +kernel), _, rfl, iteF k⟩
    | ref a =>
      rcases hp with ⟨xs, hx⟩ | ⟨xs, hx⟩
      · exact ⟨_, rfl, _, _, _, _, _, rfl, .ty "int", .base (.tup hx), kit_ty (r := false) (by decide +kernel), _, rfl, iteF k⟩
      · exact ⟨_, rfl, _, _, _, _, _, rfl, .ty "int", .base (.lst hx), kit_ty (r := false) (by decide +kernel), _, rfl, iteF k⟩
    | byt _ => exact hp.elim
    | flt _ => exact hp.elim
    | ty _ => exact hp.elim
theorem scTuple : FnScope ["value", "least", "most"] ["value", "least", "most"] (defScope s_is_tuple) := ⟨rfl, rfl, rfl, by decide +kernel, rfl, by decide +kernel, by decide +kernel⟩
theorem ok_tuple {f : Addr} {fd : FuncData} (F : Fun K "is_tuple" "is_tuple" s_is_tuple f fd) (T : Txt K mg) : FnOk P w K mg base CX0 1 f fd ["value", "least", "most"] spTuple := by
  refine F.ok scTuple (fun vs H Q E h => ?_) (fun cdv A outer s H vs Q E hr h => ?_)
  · obtain ⟨v, lo, hi, rfl, _⟩ := h
    rfl
  · obtain ⟨v, lo, hi, rfl, hp, k⟩ := h
    refine ⟨_, pss_one (ps_ret (pe_and (pe_callB call_isi (by rfl) T.nIsi (by decide +kernel) (pa_cons (pv 0) (pa_cons (pe_bltn (v := .ty "tuple") (by rfl) T.nTuple (by decide +kernel) rfl) pa_nil)))
      (pe_one (pe_chain op_le op_le (pv 1) (pe_callB call_len (by rfl) T.nLen (by decide +kernel) (pa_cons (pv 0) pa_nil)) (pv 2))))), ?_⟩
    cases v with
    | ref a =>
      rcases hp with ⟨xs, hx⟩ | ⟨xs, hx⟩
      · refine ⟨_, rfl, _, _, _, _, _, rfl, .ty "tuple", .base (.tup hx), kit_ty (r := true) (by decide +kernel), _, rfl, iteT ?_⟩
        refine ⟨_, rfl, _, rfl, _, xs.length, rfl, .inr ⟨_, SqT.of hx, rfl⟩, ?_⟩
        have e0 : isT H lo hi (.ref a) = (decide (lo ≤ (xs.length : Int)) && decide ((xs.length : Int) ≤ hi)) := by
          show (match H a with | some (.tup xs) => _ | _ => false) = _
          rw [hx]
        rw [e0] at k
        refine ⟨_, _, rfl, rfl, _, rfl, ?_⟩
        refine ite2 (fun h1 => ?_) (fun h1 => ?_)
        · refine ⟨_, rfl, _, _, rfl, rfl, ?_⟩
          rw [h1, Bool.true_and] at k
          exact k
        · rw [Bool.eq_false_iff.mpr h1, Bool.false_and] at k
          exact k
      · have e0 : isT H lo hi (.ref a) = false := by
          show (match H a with | some (.tup xs) => _ | _ => false) = _
          rw [hx]
        rw [e0] at k
        exact ⟨_, rfl, _, _, _, _, _, rfl, .ty "tuple", .base (.lst hx), kit_ty (r := false) (by decide +kernel), _, rfl, iteF k⟩
    | int i => exact ⟨_, rfl, _, _, _, _, _, rfl, .ty "tuple", .base (.int i), kit_ty (r := false) (by decide +kernel), _, rfl, iteF k⟩
    | bl b => exact ⟨_, rfl, _, _, _, _, _, rfl, .ty "tuple", .base (.bl b), kit_ty (r := false) (by decide +kernel), _, rfl, iteF k⟩
    | non => exact ⟨_, rfl, _, _, _, _, _, rfl, .ty "tuple", .base .non, kit_ty (r := false) (by decide +kernel), _, rfl, iteF k⟩
    | str x => exact ⟨_, rfl, _, _, _, _, _, rfl, .ty "tuple", .base (.str x), kit_ty (r := false) (by decide +kernel), _, rfl, iteF k⟩
    | byt _ => exact hp.elim
    | flt _ => exact hp.elim
    | ty _ => exact hp.elim
end
theorem _root_.L2.Same.none {H H' : Hp} {p : Addr} (s : Same H H') (n : H' p = none) : H p = none := by
  cases q : H p with
  | none => rfl
  | some o =>
    have := s _ _ q
    rw [n] at this
    cases this
theorem isW_of {n : Int} (h0 : 0 ≤ n) (h1 : n ≤ 9999) : isW 0 9999 (.int n) = true := by
  show (decide (0 ≤ n) && decide (n ≤ 9999)) = true
  rw [decide_eq_true h0, decide_eq_true h1]
  rfl
/-- an error class of the program -/
structure ErrC (K : PySem.W.Frag) (mg : Str → Option Value) (x : Str) (C : Addr) : Prop where
  g : mg x = some (.ref C)
  x : PySem.W.excIn K C [.type "ValueError", .type "Exception", .type "BaseException", .type "object"] "ValueError.__new__" = true
  k : PySem.W.keepIn K (.ref C) = true
  b : PySem.W.subIn K (.ref C) (.type "BaseException") = some true
  t : PySem.W.typeIn K (.ref C) = some (.type "type")
end OH
end
section
set_option Elab.async false
set_option linter.all false
set_option maxRecDepth 100000
set_option maxHeartbeats 8000000
namespace OH
open PySem PySem.Spec PyProof.Rows L2
def stK (g c : Addr) (r t : Int) : List (Key × V) := [(.inr "great", .ref g), (.inr "cells", .ref c), (.inr "rest", .int r), (.inr "turn", .int t)]
theorem st_great (g c : Addr) (r t : Int) : valV (stK g c r t) (.inr "great" : Key) = some (.ref g) := rfl
theorem st_cells (g c : Addr) (r t : Int) : valV (stK g c r t) (.inr "cells" : Key) = some (.ref c) := rfl
theorem st_rest (g c : Addr) (r t : Int) : valV (stK g c r t) (.inr "rest" : Key) = some (.int r) := rfl
theorem st_turn (g c : Addr) (r t : Int) : valV (stK g c r t) (.inr "turn" : Key) = some (.int t) := rfl
theorem st_put_rest (g c : Addr) (r t z : Int) : putK (stK g c r t) (.inr "rest" : Key) (.int z) = stK g c z t := rfl
theorem st_put_turn (g c : Addr) (r t z : Int) : putK (stK g c r t) (.inr "turn" : Key) (.int z) = stK g c r z := rfl
theorem st_made (g c : Addr) : mergeK ([] : List (Key × V)) [(.inr "great", .ref g), (.inr "cells", .ref c), (.inr "rest", .int 0), (.inr "turn", .int 0)] = stK g c 0 0 := rfl
/-- the state of the drawing: the dict at st, its lists at g and c; at most n draws were mixed -/
structure SA (H : Hp) (st g c : Addr) (n : Nat) : Prop where
  dc : ∃ r t : Int, 0 ≤ r ∧ 0 ≤ t ∧ t ≤ n ∧ H st = some (.dK (stK g c r t))
  gl : ∃ gs : List Int, H g = some (.lst (gs.map V.int)) ∧ (∀ z ∈ gs, 0 ≤ z) ∧ gs.length ≤ 63
  cl : ∃ cs : List Int, H c = some (.lst (cs.map V.int)) ∧ (∀ z ∈ cs, 0 ≤ z) ∧ cs.length ≤ 63
  gc : g ≠ c
/-- all that was tracked is as it was, but the state's dict and its list of greats -/
def Fr (st g : Addr) (H H' : Hp) : Prop := ∀ b o, H b = some o → b ≠ st → b ≠ g → H' b = some o
theorem Fr.refl (st g : Addr) (H : Hp) : Fr st g H H := fun _ _ e _ _ => e
theorem Fr.trans {st g : Addr} {H H1 H2 : Hp} (a : Fr st g H H1) (b : Fr st g H1 H2) : Fr st g H H2 := fun c o e h1 h2 => b c o (a c o e h1 h2) h1 h2
theorem Fr.of {st g : Addr} {H H' : Hp} (a : Same H H') : Fr st g H H' := fun b o e _ _ => a b o e
theorem SA.same {H H' : Hp} {st g c : Addr} {n : Nat} (s : SA H st g c n) (e : Same H H') : SA H' st g c n := by
  obtain ⟨⟨r, t, h1, h2, h3, h4⟩, ⟨gs, g1, g2, g3⟩, ⟨cs, c1, c2, c3⟩, gc⟩ := s
  exact ⟨⟨r, t, h1, h2, h3, e _ _ h4⟩, ⟨gs, e _ _ g1, g2, g3⟩, ⟨cs, e _ _ c1, c2, c3⟩, gc⟩
theorem SA.mono {H : Hp} {st g c : Addr} {n m : Nat} (s : SA H st g c n) (h : n ≤ m) : SA H st g c m := by
  obtain ⟨⟨r, t, h1, h2, h3, h4⟩, x, y, z⟩ := s
  exact ⟨⟨r, t, h1, h2, by omega, h4⟩, x, y, z⟩
theorem SA.ne_st {H : Hp} {st g c b : Addr} {n : Nat} {o : HO} (s : SA H st g c n) (e : H b = some o) (h : ∀ kvs, o ≠ .dK kvs) : b ≠ st := by
  obtain ⟨⟨r, t, _, _, _, h4⟩, _⟩ := s
  exact ne_of e h4 (h _)
theorem SA.old {H : Hp} {st g c p : Addr} {n : Nat} (s : SA H st g c n) (e : H p = none) : p ≠ st ∧ p ≠ g ∧ p ≠ c := by
  obtain ⟨⟨r, t, _, _, _, h4⟩, ⟨gs, g1, _⟩, ⟨cs, c1, _⟩, _⟩ := s
  exact ⟨(ne_of_none h4 e).symm, (ne_of_none g1 e).symm, (ne_of_none c1 e).symm⟩
theorem sout {H H' : Hp} (s : Same H H') {p : Addr} {o : HO} (n : H p = none) : Same H (upd H' p o) := fun b u e => by
  rw [upd_ne (ne_of_none e n)]
  exact s b u e
def spBegun (K : PySem.W.Frag) : Sp := fun vs H Q _ => ∃ (a : Addr) (ns : List Int), vs = [.ref a] ∧ SqL K H a (ns.map V.int) ∧ ns.length ≤ 63 ∧
  ∀ st g c H', H st = none → H g = none → H c = none → Same H H' → SA H' st g c 0 → Q (.ref st) H'
section
variable {P : Program} {w : World} {K : PySem.W.Frag} {mg : Str → Option Value} {base : Heap}
theorem scBegun : FnScope ["script", "great", "cell"] ["script"] (defScope s__law_begun) := ⟨rfl, rfl, rfl, by decide +kernel, rfl, by decide +kernel, by decide +kernel⟩
theorem ok_begun {f : Addr} {fd : FuncData} (F : Fun K "_law_begun" "_law_begun" s__law_begun f fd) (T : Txt K mg) : FnOk P w K mg base CX0 1 f fd ["script"] (spBegun K) := by
  refine F.ok scBegun (fun vs H Q E h => ?_) (fun cdv A outer s H vs Q E hr h => ?_)
  · obtain ⟨a, ns, rfl, _⟩ := h
    rfl
  · obtain ⟨a, ns, rfl, hS, hl, k⟩ := h
    have nd := scBegun.nd
    refine ⟨_, pss_cons (ps_setLc (i := 1) (own := [("cell", 2)]) (g := gName 2) rfl nd rfl rfl (sw_true rfl rfl rfl (by decide +kernel)) (pi_list (pv 0))
        (blkOk_by (own := [("cell", 2)]) (N := ["script", "great", "cell"]) (sc := defScope s__law_begun) (by decide +kernel))
        (fun _ _ _ _ _ => pg_name (i := 2) nd rfl (Or.inl rfl))
        (fun _ _ _ _ _ => pts_one (pt_cmpR op_ge (pe_callB call_abs (by rfl) T.nAbs (by decide +kernel) (pa_cons (pv 2) pa_nil)) (pe_op op_pow pe_int pe_int) (nomark _)))
        (fun _ _ _ _ _ => pe_op op_sub (pe_callB call_abs (by rfl) T.nAbs (by decide +kernel) (pa_cons (pv 2) pa_nil)) (pe_op op_pow pe_int pe_int)))
      (pss_one (ps_ret (pe_disp (pps_cons pe_str (pv 1) (pps_cons pe_str
        (pe_lc (own := [("cell", 2)]) (g := gName 2) (tt := tYes) rfl nd (pi_list (pv 0)) (blkOk_by (own := [("cell", 2)]) (N := ["script", "great", "cell"]) (sc := defScope s__law_begun) (by decide +kernel))
          (fun _ _ _ _ _ => pg_name (i := 2) nd rfl (Or.inl rfl)) (fun _ _ _ _ _ => pts_nil)
          (fun _ _ _ _ _ => pe_callB call_abs (by rfl) T.nAbs (by decide +kernel) (pa_cons (pv 2) pa_nil)))
        (pps_cons pe_str pe_int (pps_cons pe_str pe_int pps_nil)))) (by rfl) (by rfl) (fun z => by cases z) (by decide)))), ?_⟩
    refine ⟨_, rfl, a, rfl, ⟨_, hS⟩, fun D nD => ?_⟩
    have get : ∀ {i : Nat} {x : V}, (ns.map V.int)[i]? = some x → ∃ z, x = .int z ∧ z ∈ ns ∧ ns[i]? = some z := fun {i x} hx => by
      rw [List.getElem?_map] at hx
      cases e : ns[i]? with
      | none => rw [e] at hx; cases hx
      | some z =>
        rw [e] at hx
        exact ⟨z, (Option.some.inj hx).symm, List.mem_of_getElem? e, rfl⟩
    refine lc_list (K := K) (a := a) (xs := ns.map V.int) (fun i H' => Same H H' ∧ ∃ gs : List Int, H' D = some (.lst (gs.map V.int)) ∧ (∀ z ∈ gs, 0 ≤ z) ∧ gs.length ≤ i)
      ⟨sadd (Same.refl H) nD, [], upd_same, by simp, Nat.le_refl _⟩ (fun i H' _ ⟨s, _⟩ => s.seq hS) ?turn ?done
    case turn =>
      rintro i x H' hx ⟨s, gs, hD, h0, hn⟩
      obtain ⟨z, rfl, _, hz⟩ := get hx
      have hi : i < ns.length := (List.getElem?_eq_some_iff.mp hz).1
      refine ⟨rfl, ?_⟩
      refine ⟨_, rfl, z, rfl, _, _, rfl, rfl, ⟨by decide, by decide, by decide⟩, _, _, rfl, rfl, _, rfl, ?_⟩
      refine ite2 (fun ht => ?_) (fun _ => ?_)
      · have hge := of_decide_eq_true ht
        refine ⟨_, rfl, z, rfl, _, _, rfl, rfl, ⟨by decide, by decide, by decide⟩, _, _, rfl, rfl, _, hD, ?_, sout s nD, gs ++ [(if z < 0 then -z else z) - 10 ^ Int.toNat 18], ?_, ?_, ?_⟩
        · rw [List.length_map, sizeLine_eq]
          omega
        · rw [upd_same, List.map_append]
          rfl
        · intro y hy
          rcases List.mem_append.mp hy with q | q
          · exact h0 y q
          · rw [List.mem_singleton] at q
            rw [q]
            omega
        · rw [List.length_append, List.length_singleton]
          omega
      · exact ⟨s, gs, hD, h0, by omega⟩
    case done =>
      rintro H1 ⟨s1, gs, hD, h0, hn⟩
      rw [List.length_map] at hn
      -- the display
      intro d nd1
      have nd0 : H d = none := s1.free nd1
      have zDd : D ≠ d := ne_of_none hD nd1
      refine ⟨_, rfl, _, rfl, a, rfl, ⟨_, s1.seq hS |> fun q => (sadd (Same.refl H1) nd1).seq q⟩, fun C nC => ?_⟩
      have zC : C ≠ d := fun z => by rw [z, upd_same] at nC; cases nC
      have nC1 : H1 C = none := (upd_ne zC).symm.trans nC
      have nC0 : H C = none := s1.free nC1
      have zDC : D ≠ C := ne_of_none hD nC1
      refine lc_list (K := K) (a := a) (xs := ns.map V.int) (fun i H' => Same (upd H1 d (.dK [])) H' ∧ ∃ cs : List Int, H' C = some (.lst (cs.map V.int)) ∧ (∀ z ∈ cs, 0 ≤ z) ∧ cs.length ≤ i)
        ⟨sadd (Same.refl _) nC, [], upd_same, by simp, Nat.le_refl _⟩ (fun i H' _ ⟨s, _⟩ => s.seq ((sadd (Same.refl H1) nd1).seq (s1.seq hS))) ?turn2 ?done2
      case turn2 =>
        rintro i x H' hx ⟨s, cs, hC, h0', hn'⟩
        obtain ⟨z, rfl, _, hz⟩ := get hx
        have hi : i < ns.length := (List.getElem?_eq_some_iff.mp hz).1
        refine ⟨rfl, ?_⟩
        unfold tYes
        refine iteT ?_
        refine ⟨_, rfl, z, rfl, _, hC, ?_, sout s nC, cs ++ [if z < 0 then -z else z], ?_, ?_, ?_⟩
        · rw [List.length_map, sizeLine_eq]
          omega
        · rw [upd_same, List.map_append]
          rfl
        · intro y hy
          rcases List.mem_append.mp hy with q | q
          · exact h0' y q
          · rw [List.mem_singleton] at q
            rw [q]
            split <;> omega
        · rw [List.length_append, List.length_singleton]
          omega
      case done2 =>
        rintro H2 ⟨s2, cs, hC, h0', hn'⟩
        rw [List.length_map] at hn'
        have hd2 := s2 d _ upd_same
        refine ⟨hd2, [(.inr "great", .ref D), (.inr "cells", .ref C), (.inr "rest", .int 0), (.inr "turn", .int 0)], rfl, (by show 4 ≤ 15; decide), ?_⟩
        rw [st_made]
        have hD2 : H2 D = some (.lst (gs.map V.int)) := s2 D _ ((upd_ne zDd).trans hD)
        refine k d D C _ nd0 nD nC0 (sout ((s1.trans (sadd (Same.refl H1) nd1)).trans s2) nd0) ⟨⟨0, 0, by decide, by decide, by decide, upd_same⟩, ⟨gs, (upd_ne zDd).trans hD2, h0, by omega⟩, ⟨cs, (upd_ne zC).trans hC, h0', by omega⟩, zDC⟩
end

def spMixed : Sp := fun vs H Q _ => ∃ (st g c : Addr) (n : Nat), vs = [.ref st] ∧ SA H st g c n ∧ n ≤ 1000000 ∧
  ∀ z H', 0 ≤ z → SA H' st g c (n + 1) → (∀ b o, H b = some o → b ≠ st → H' b = some o) → Q (.int z) H'
section
variable {P : Program} {w : World} {K : PySem.W.Frag} {mg : Str → Option Value} {base : Heap}
theorem scMixed : FnScope ["state", "turn", "found", "prime", "blend", "cell"] ["state"] (defScope s__law_mixed) := ⟨rfl, rfl, rfl, by decide +kernel, rfl, by decide +kernel, by decide +kernel⟩
theorem ok_mixed {f : Addr} {fd : FuncData} (F : Fun K "_law_mixed" "_law_mixed" s__law_mixed f fd) (T : Txt K mg) : FnOk P w K mg base CX0 1 f fd ["state"] spMixed := by
  refine F.ok scMixed (fun vs H Q E h => ?_) (fun cdv A outer s H vs Q E hr h => ?_)
  · obtain ⟨st, g, c, n, rfl, _⟩ := h
    rfl
  · obtain ⟨st, g, c, n, rfl, S, hn, k⟩ := h
    have nd := scMixed.nd
    have hu := hu_of hr
    refine ⟨_, pss_cons (ps_par (i := 1) (j := 2) rfl nd rfl rfl (by decide) rfl rfl (pa_cons (pe_op op_add (pe_dget hu (pv 0) pe_str (fun _ _ => rfl)) pe_int) (pa_cons pe_int pa_nil)) (by rfl))
      (pss_cons (ps_dput hu (pv 0) pe_str (pv 1) rfl)
      (pss_cons (ps_for PassesOwn.never rfl (pi_list (pe_lst (pa_cons pe_int (pa_cons pe_int (pa_cons pe_int (pa_cons pe_int pa_nil)))))) (pg_name (i := 3) nd rfl (Or.inl rfl))
        (pss_cons (ps_set (i := 4) nd rfl (Or.inl rfl) (pe_op op_add (pe_op op_mul pe_int (pv 1)) (pe_op op_fdiv (pv 3) pe_int)))
        (pss_cons (ps_for PassesOwn.never rfl (pi_list (pe_dget hu (pv 0) pe_str (fun _ _ => rfl))) (pg_name (i := 5) nd rfl (Or.inl rfl))
          (pss_one (ps_set (i := 4) nd rfl (Or.inl rfl) (pe_op op_mod (pe_callTy call_int1 (by rfl) T.nInt (by decide +kernel) (pa_cons (pe_op op_add (pe_op op_add (pe_op op_mul (pv 4) pe_int) (pv 5)) (pv 1)) pa_nil)) (pv 3)))))
        (pss_one (ps_set (i := 2) nd rfl (Or.inl rfl) (pe_op op_add (pe_op op_mul (pv 2) pe_int) (pe_op op_mod (pe_callTy call_int1 (by rfl) T.nInt (by decide +kernel) (pa_cons (pe_op op_pow (pv 4) pe_int) pa_nil)) (pv 3))))))))
      (pss_one (ps_ret (pv 2))))), ?_⟩
    obtain ⟨⟨r, t, r0, t0, tn, hst⟩, ⟨gs, hg, g0, g63⟩, ⟨cs, hc, c0, c63⟩, gc⟩ := S
    refine ⟨_, rfl, st, _, rfl, DGet.k (k := Sum.inr "turn") hst, _, _, rfl, rfl, _, _, rfl, ?_⟩
    -- state['turn'] = turn
    refine ⟨_, rfl, _, rfl, st, _, rfl, DPut.k (k := Sum.inr "turn") hst (by show 4 < sizeLine; decide), ?_⟩
    rw [st_put_turn]
    -- for prime in [..]
    refine ⟨by show 4 ≤ sizeLine; decide, fun l nl => ?_⟩
    have zlst : st ≠ l := fun z => by rw [← z, upd_same] at nl; cases nl
    have nl0 : H l = none := (upd_ne zlst.symm).symm.trans nl
    have zcst : c ≠ st := ne_of hc hst (by intro z; cases z)
    have zgst : g ≠ st := ne_of hg hst (by intro z; cases z)
    have zcl : c ≠ l := ne_of_none hc nl0
    have zgl : g ≠ l := ne_of_none hg nl0
    let Hl : Hp := upd (upd H st (.dK (stK g c r (t + 1)))) l (.lst [.int 2147483629, .int 2147483647, .int 2147483563, .int 2147483587])
    have lc : Hl c = some (.lst (cs.map V.int)) := (upd_ne zcl).trans ((upd_ne zcst).trans hc)
    have lst : Hl st = some (.dK (stK g c r (t + 1))) := (upd_ne zlst).trans upd_same
    refine ⟨l, rfl, ⟨_, SqL.of upd_same⟩, for_list (K := K) (a := l) (xs := [.int 2147483629, .int 2147483647, .int 2147483563, .int 2147483587])
      (fun i σ H2 => Same Hl H2 ∧ ∃ (fnd : Int) (vp vb vc : Option V), 0 ≤ fnd ∧ σ = [some (.ref st), some (.int (t + 1)), some (.int fnd), vp, vb, vc])
      ⟨Same.refl _, 0, none, none, none, by decide, rfl⟩ (fun i σ H2 _ ⟨s, _⟩ => SqL.of (s l _ upd_same)) ?turn ?done⟩
    case turn =>
      rintro i x σ H2 hx ⟨s, fnd, vp, vb, vc, f0, rfl⟩
      obtain ⟨p, rfl, p0, p1⟩ : ∃ p : Int, x = .int p ∧ 0 < p ∧ p < 2 ^ 31 := by
        have hm := List.mem_of_getElem? hx
        simp only [List.mem_cons, List.not_mem_nil, or_false] at hm
        rcases hm with rfl | rfl | rfl | rfl
        all_goals exact ⟨_, rfl, by decide, by decide⟩
      refine ⟨_, rfl, _, _, rfl, rfl, .inl ⟨by decide, by decide⟩, _, rfl, _, _, rfl, rfl, ⟨by decide, by decide⟩, _, _, rfl, rfl, ?_⟩
      refine ⟨_, rfl, st, _, rfl, DGet.k (k := Sum.inr "cells") (s st _ lst), c, rfl, ⟨_, SqL.of (s c _ lc)⟩, for_list (K := K) (a := c) (xs := cs.map V.int)
        (fun j σ' H3 => H3 = H2 ∧ ∃ (bl : Int) (vc : Option V), 0 ≤ bl ∧ bl < 2 ^ 64 ∧ σ' = [some (.ref st), some (.int (t + 1)), some (.int fnd), some (.int p), some (.int bl), vc])
        ⟨rfl, 69621 * (t + 1) + p / 41, vc, ?_, ?_, rfl⟩ (fun j σ' H3 _ ⟨e, _⟩ => SqL.of (e ▸ s c _ lc)) ?turn2 ?done2⟩
      · have := Int.ediv_nonneg (Int.le_of_lt p0) (by decide : (0 : Int) ≤ 41)
        omega
      · have h1 : p / 41 ≤ p := Int.ediv_le_self _ (Int.le_of_lt p0)
        omega
      case turn2 =>
        rintro j y σ' H3 hy ⟨rfl, bl, vc', b0, b1, rfl⟩
        obtain ⟨z, rfl⟩ : ∃ z : Int, y = .int z := by
          rw [List.getElem?_map] at hy
          cases e : cs[j]? with
          | none => rw [e] at hy; cases hy
          | some z =>
            rw [e] at hy
            exact ⟨z, (Option.some.inj hy).symm⟩
        refine ⟨_, rfl, _, _, rfl, rfl, .inr ⟨by decide, by decide⟩, _, rfl, _, _, rfl, rfl, _, rfl, _, _, rfl, rfl, .inl ⟨_, rfl, _, rfl, _, _, rfl, rfl, p0, rfl, _, _, ?_, ?_, rfl⟩⟩
        · exact Int.emod_nonneg _ (by omega)
        · have := Int.emod_lt_of_pos (bl * 48271 + z + (t + 1)) p0
          omega
      case done2 =>
        rintro σ' H3 ⟨rfl, bl, vc', b0, b1, rfl⟩
        refine ⟨_, rfl, _, _, rfl, rfl, .inr ⟨by decide, by decide⟩, _, rfl, _, _, rfl, rfl, ⟨by decide, by decide, by omega⟩, .inl ⟨_, rfl, _, rfl, _, _, rfl, rfl, p0, _, _, rfl, rfl, s, _, _, _, _, ?_, rfl⟩⟩
        have := Int.emod_nonneg (bl ^ Int.toNat 5) (show p ≠ 0 by omega)
        omega
    case done =>
      rintro σ H2 ⟨s, fnd, vp, vb, vc, f0, rfl⟩
      refine ⟨_, rfl, k fnd H2 f0 ⟨⟨r, t + 1, r0, by omega, by omega, s st _ lst⟩, ⟨gs, s g _ ((upd_ne zgl).trans ((upd_ne zgst).trans hg)), g0, g63⟩, ⟨cs, s c _ lc, c0, c63⟩, gc⟩ fun b o e hb => ?_⟩
      exact s b o ((upd_ne (ne_of_none e nl0)).trans ((upd_ne hb).trans e))
end

/-- a draw below room -/
def spDraw : Sp := fun vs H Q _ => ∃ (st g c : Addr) (n : Nat) (room : Int), vs = [.ref st, .int room] ∧ SA H st g c n ∧ n ≤ 1000000 ∧ 0 < room ∧ room ≤ 1000000 ∧
  ∀ z H', 0 ≤ z → z < room → SA H' st g c (n + 1) → Fr st g H H' → Q (.int z) H'
theorem dp_ints {K : PySem.W.Frag} {H : Hp} : ∀ l : List Int, DpAll K H (l.map V.int) (l.map PyData.int)
  | [] => .nil
  | z :: l => .cons (.int z) (dp_ints l)
theorem sh_ints (l : List Int) : SeqAt.shaped (.list (l.map PyData.int)) = true := PySem.W.ke_shaped_ints l
theorem seq0 {α : Type} (z : α) (l : List α) : seqIndex? 0 (z :: l).length = some 0 := by
  have h : ixN (z :: l).length 0 = some 0 := by
    unfold ixN
    rw [if_pos (by decide), if_pos (by rw [List.length_cons]; omega)]
    rfl
  exact (ixN_seq h).1
section
variable {P : Program} {w : World} {K : PySem.W.Frag} {mg : Str → Option Value} {base : Heap}
theorem scDraw : FnScope ["state", "room", "found"] ["state", "room"] (defScope s__law_draw) := ⟨rfl, rfl, rfl, by decide +kernel, rfl, by decide +kernel, by decide +kernel⟩
theorem ok_draw {f fM : Addr} {fd fdM : FuncData} (F : Fun K "_law_draw" "_law_draw" s__law_draw f fd) (T : Txt K mg)
    (FM : FnOk P w K mg base CX0 1 fM fdM ["state"] spMixed) (mM : mg "_law_mixed" = some (.ref fM)) (kM : PySem.W.keepIn K (.ref fM) = true) (bM : Binds K fdM ["state"] []) :
    FnOk P w K mg base CX0 2 f fd ["state", "room"] spDraw := by
  refine F.ok scDraw (fun vs H Q E h => ?_) (fun cdv A outer s H vs Q E hr h => ?_)
  · obtain ⟨st, g, c, n, room, rfl, _⟩ := h
    rfl
  · obtain ⟨st, g, c, n, room, rfl, S, hn, r1, r2, k⟩ := h
    have nd := scDraw.nd
    have hu := hu_of hr
    refine ⟨_, pss_cons (ps_if (pt_cmpR op_eq (pe_dget hu (pv 0) pe_str (fun _ _ => rfl)) pe_int (nomark _))
        (pss_one (ps_dput hu (pv 0) pe_str (pe_ifExp (pt_cmpR (op_neD hr.units) (pe_dget hu (pv 0) pe_str (fun _ _ => rfl)) (pe_lst pa_nil) (nomark _))
          (pe_bm PySem.F.plainAttrs_list PySem.F.slot_list_pop PySem.F.type_list_pop mt_popAt (pe_dget hu (pv 0) pe_str (fun _ _ => rfl)) (pa_cons pe_int pa_nil))
          (pe_call FM hr rfl mM kM bM .nil pass0 (pa_cons (pv 0) pa_nil))) rfl)) pss_nil)
      (pss_cons (ps_set (i := 2) nd rfl (Or.inl rfl) (pe_op op_mod (pe_callTy call_int1 (by rfl) T.nInt (by decide +kernel) (pa_cons (pe_dget hu (pv 0) pe_str (fun _ _ => rfl)) pa_nil)) (pv 1)))
      (pss_cons (ps_dput hu (pv 0) pe_str (pe_op op_fdiv (pe_dget hu (pv 0) pe_str (fun _ _ => rfl)) (pv 1)) rfl)
      (pss_one (ps_ret (pv 2))))), ?_⟩
    obtain ⟨⟨r, t, r0, t0, tn, hst⟩, ⟨gs, hg, g0, g63⟩, ⟨cs, hc, c0, c63⟩, gc⟩ := id S
    have cont : ∀ H1, SA H1 st g c (n + 1) → Fr st g H H1 → tSeq (tAsg (tOp (rI (fun _ j => 0 < j) fun i j => V.int (i % j)) (tCB (fun xs H Q => (∃ i, xs = [V.int i] ∧ Q (V.int i) H) ∨ ∃ k, xs = [V.bl k] ∧ Q (V.int (if k = true then 1 else 0)) H)
        (tCons (tDGet (tVar 0) (tC (V.str (Str.ofString "rest")))) tNil)) (tVar 1)) (gName 2))
        (tSeq (sDPut (tVar 0) (tC (V.str (Str.ofString "rest"))) (tOp (rI CDiv fun i j => V.int (i / j)) (tDGet (tVar 0) (tC (V.str (Str.ofString "rest")))) (tVar 1))) (tRet (tVar 2)))
        { nx := fun x H' => Q V.non H', rt := Q } (L2.start ["state", "room", "found"] [V.ref st, V.int room]) H1 := by
      intro H1 S1 F1
      obtain ⟨⟨r', t', r0', t0', tn', hst'⟩, ⟨gs', hg', g0', g63'⟩, ⟨cs', hc', c0', c63'⟩, gc'⟩ := id S1
      refine ⟨_, rfl, st, _, rfl, DGet.k (k := Sum.inr "rest") hst', .inl ⟨r', rfl, _, rfl, _, _, rfl, rfl, r1, ?_⟩⟩
      refine ⟨_, rfl, st, _, rfl, DGet.k (k := Sum.inr "rest") hst', _, rfl, _, _, rfl, rfl, ⟨r1, by omega⟩, _, rfl, st, _, rfl, DPut.k (k := Sum.inr "rest") hst' (by show 4 < sizeLine; decide), ?_⟩
      rw [st_put_rest]
      have zg : g ≠ st := ne_of hg' hst' (by intro z; cases z)
      have zc : c ≠ st := ne_of hc' hst' (by intro z; cases z)
      refine ⟨_, rfl, k _ _ (Int.emod_nonneg _ (by omega)) (Int.emod_lt_of_pos _ r1) ⟨⟨r' / room, t', Int.ediv_nonneg r0' (by omega), t0', tn', upd_same⟩, ⟨gs', (upd_ne zg).trans hg', g0', g63'⟩, ⟨cs', (upd_ne zc).trans hc', c0', c63'⟩, gc⟩ ?_⟩
      exact F1.trans fun b o e h1 h2 => (upd_ne h1).trans e
    have zg : g ≠ st := ne_of hg hst (by intro z; cases z)
    have zc : c ≠ st := ne_of hc hst (by intro z; cases z)
    refine ⟨_, rfl, st, _, rfl, DGet.k (k := Sum.inr "rest") hst, rfl, _, rfl, ?_⟩
    refine ite2 (fun hz => ?_) (fun hz => ?_)
    · -- a new rest
      refine ⟨_, rfl, st, _, rfl, DGet.k (k := Sum.inr "great") hst, ?_, fun l nl => ?_⟩
      · show 0 ≤ sizeLine
        omega
      have zgl : g ≠ l := ne_of_none hg nl
      have zcl : c ≠ l := ne_of_none hc nl
      have zsl : st ≠ l := ne_of_none hst nl
      have hgl : upd H l (.lst []) g = some (.lst (gs.map V.int)) := (upd_ne zgl).trans hg
      have hstl : upd H l (.lst []) st = some (.dK (stK g c r t)) := (upd_ne zsl).trans hst
      have hcl : upd H l (.lst []) c = some (.lst (cs.map V.int)) := (upd_ne zcl).trans hc
      refine ⟨.list (gs.map PyData.int), .list [], .lst (SqL.of hgl) (dp_ints gs), .lst (SqL.of upd_same) .nil, sh_ints gs, rfl, _, rfl, ?_⟩
      cases gs with
      | nil =>
        refine iteF ?_
        have S' : SA (upd H l (.lst [])) st g c n := S.same (sadd (Same.refl H) nl)
        refine ⟨_, rfl, st, g, c, n, rfl, S', hn, fun z H1 z0 S1 F1 => ?_⟩
        obtain ⟨⟨r', t', r0', t0', tn', hst'⟩, ⟨gs', hg', g0', g63'⟩, ⟨cs', hc', c0', c63'⟩, gc'⟩ := id S1
        refine ⟨_, rfl, st, _, rfl, DPut.k (k := Sum.inr "rest") hst' (by show 4 < sizeLine; decide), ?_⟩
        rw [st_put_rest]
        refine cont _ ⟨⟨z, t', z0, t0', tn', upd_same⟩, ⟨gs', (upd_ne zg).trans hg', g0', g63'⟩, ⟨cs', (upd_ne zc).trans hc', c0', c63'⟩, gc⟩ fun b o e h1 h2 => (upd_ne h1).trans (F1 b o ((upd_ne (ne_of_none e nl)).trans e) h1)
      | cons z gs =>
        refine iteT ?_
        have zgc : c ≠ g := gc.symm
        refine ⟨_, rfl, st, _, rfl, DGet.k (k := Sum.inr "great") hstl, .inl ⟨rfl, _, SqL.of hgl⟩, g, _, 0, 0, _, rfl, rfl, hgl, by decide, by decide, seq0 _ _, rfl, ?_⟩
        have e0 : ((z :: gs).map V.int).eraseIdx 0 = gs.map V.int := rfl
        rw [e0]
        refine ⟨_, rfl, st, _, rfl, DPut.k (k := Sum.inr "rest") ((upd_ne zg.symm).trans hstl) (by show 4 < sizeLine; decide), ?_⟩
        rw [st_put_rest]
        refine cont _ ⟨⟨z, t, g0 z List.mem_cons_self, t0, by omega, upd_same⟩, ⟨gs, (upd_ne zg).trans upd_same, fun y hy => g0 y (List.mem_cons_of_mem _ hy), by rw [List.length_cons] at g63; omega⟩,
          ⟨cs, (upd_ne zc).trans ((upd_ne zgc).trans hcl), c0, c63⟩, gc⟩ fun b o e h1 h2 => (upd_ne h1).trans ((upd_ne h2).trans ((upd_ne (ne_of_none e nl)).trans e))
    · exact cont H (S.mono (Nat.le_succ n)) (Fr.refl st g H)
end
end OH
end
section
set_option Elab.async false
set_option linter.all false
set_option maxRecDepth 100000
set_option maxHeartbeats 8000000
namespace OH
open PySem PySem.Spec PyProof.Rows L2
def spPick : Sp := fun vs H Q _ => ∃ (st g c a : Addr) (n : Nat) (xs : List V), vs = [.ref st, .ref a] ∧ SA H st g c n ∧ n ≤ 1000000 ∧ H a = some (.lst xs) ∧ a ≠ g ∧ 0 < xs.length ∧ xs.length ≤ 1000000 ∧
  ∀ x H', x ∈ xs → SA H' st g c (n + 1) → Fr st g H H' → Q x H'
theorem upd_under {H : Hp} {a b : Addr} {o u : HO} (h : a ≠ b) : upd (upd H a o) b u a = some o := (upd_ne h).trans upd_same
theorem SA.put {H : Hp} {st g c p : Addr} {n : Nat} {o : HO} (s : SA H st g c n) (z : p ≠ st ∧ p ≠ g ∧ p ≠ c) : SA (upd H p o) st g c n := by
  obtain ⟨⟨r, t, h1, h2, h3, h4⟩, ⟨gs, g1, g2, g3⟩, ⟨cs, c1, c2, c3⟩, gc⟩ := s
  exact ⟨⟨r, t, h1, h2, h3, (upd_ne z.1.symm).trans h4⟩, ⟨gs, (upd_ne z.2.1.symm).trans g1, g2, g3⟩, ⟨cs, (upd_ne z.2.2.symm).trans c1, c2, c3⟩, gc⟩
theorem Fr.free {st g l : Addr} {H H' : Hp} (f : Fr st g H H') (n : H' l = none) (z : l ≠ st) (z2 : l ≠ g) : H l = none := by
  cases e : H l with
  | none => rfl
  | some o =>
    have q := f l o e z z2
    rw [n] at q
    cases q
theorem Fr.out {st g l : Addr} {H H' : Hp} {o : HO} (f : Fr st g H H') (n : H l = none) : Fr st g H (upd H' l o) := fun b u e h1 h2 =>
  (upd_ne (ne_of_none e n)).trans (f b u e h1 h2)
/-- a drawn number -/
def spNo (used : Nat) : Sp := fun vs H Q _ => ∃ (st g c : Addr) (n : Nat), vs = [.ref st] ∧ SA H st g c n ∧ n ≤ 900000 ∧
  ∀ z H', 0 ≤ z → z ≤ 9999 → SA H' st g c (n + used) → Fr st g H H' → Q (.int z) H'
theorem ix_both {X : Cx} : IxR X (fun x y H Q => rIxL X.K x y H Q ∨ rIxT X.K x y H Q) := by
  intro value slice pins s σ H x y v u Q I rx ry h hs
  rcases h with h | h
  · exact ix_list value slice pins s σ H x y v u Q I rx ry h hs
  · exact ix_tup value slice pins s σ H x y v u Q I rx ry h hs
/-- xs stands at a, as a list or as a tuple -/
def Holds (H : Hp) (a g : Addr) (xs : List V) : Prop := (H a = some (.lst xs) ∧ a ≠ g) ∨ H a = some (.tup xs)
def spPick2 : Sp := fun vs H Q _ => ∃ (st g c a : Addr) (n : Nat) (xs : List V), vs = [.ref st, .ref a] ∧ SA H st g c n ∧ n ≤ 1000000 ∧ Holds H a g xs ∧ 0 < xs.length ∧ xs.length ≤ 1000000 ∧
  ∀ x H', x ∈ xs → SA H' st g c (n + 1) → Fr st g H H' → Q x H'
section
variable {P : Program} {w : World} {K : PySem.W.Frag} {mg : Str → Option Value} {base : Heap}
theorem scPick : FnScope ["state", "some"] ["state", "some"] (defScope s__law_pick) := ⟨rfl, rfl, rfl, by decide +kernel, rfl, by decide +kernel, by decide +kernel⟩
theorem ok_pick2 {f fD : Addr} {fd fdD : FuncData} (F : Fun K "_law_pick" "_law_pick" s__law_pick f fd) (T : Txt K mg)
    (FD : FnOk P w K mg base CX0 2 fD fdD ["state", "room"] spDraw) (mD : mg "_law_draw" = some (.ref fD)) (kD : PySem.W.keepIn K (.ref fD) = true) (bD : Binds K fdD ["state", "room"] []) :
    FnOk P w K mg base CX0 3 f fd ["state", "some"] spPick2 := by
  refine F.ok scPick (fun vs H Q E h => ?_) (fun cdv A outer s H vs Q E hr h => ?_)
  · obtain ⟨st, g, c, a, n, xs, rfl, _⟩ := h
    rfl
  · obtain ⟨st, g, c, a, n, xs, rfl, S, hn, ha, l0, l1, k⟩ := h
    refine ⟨_, pss_one (ps_ret (pe_ix ix_both (pv 1) (pe_call FD hr rfl mD kD bD .nil pass0 (pa_cons (pv 0) (pa_cons (pe_callB call_len (by rfl) T.nLen (by decide +kernel) (pa_cons (pv 1) pa_nil)) pa_nil))) (fun _ _ => rfl))), ?_⟩
    refine ⟨_, rfl, _, rfl, _, rfl, _, xs.length, rfl, ?_, st, g, c, n, _, rfl, S, hn, by omega, by omega, fun z H1 z0 z1 S1 F1 => ?_⟩
    · rcases ha with ⟨ha, _⟩ | ha
      · exact .inl ⟨_, SqL.of ha, rfl⟩
      · exact .inr ⟨_, SqT.of ha, rfl⟩
    · have hz : z.toNat < xs.length := by omega
      have cast : (z.toNat : Int) = z := Int.toNat_of_nonneg z0
      have hx : xs[z.toNat]? = some xs[z.toNat] := List.getElem?_eq_getElem hz
      have at_ : atI xs z = some xs[z.toNat] := by
        have q := atI_nat hx
        rw [cast] at q
        exact q
      rcases ha with ⟨ha, ag⟩ | ha
      · have ha1 := F1 a _ ha (S.ne_st ha (fun _ q => nomatch q)) ag
        exact .inl ⟨a, _, _, _, rfl, rfl, SqL.of ha1, at_, k _ H1 (List.getElem_mem hz) S1 F1⟩
      · have ag : a ≠ g := by
          obtain ⟨_, ⟨gs, g1, _⟩, _⟩ := S
          exact ne_of ha g1 (fun q => nomatch q)
        have ha1 := F1 a _ ha (S.ne_st ha (fun _ q => nomatch q)) ag
        exact .inr ⟨a, _, _, _, rfl, rfl, SqT.of ha1, at_, k _ H1 (List.getElem_mem hz) S1 F1⟩
/-- the contract for lists alone -/
theorem pick_of {f : Addr} {fd : FuncData} (F : FnOk P w K mg base CX0 3 f fd ["state", "some"] spPick2) : FnOk P w K mg base CX0 3 f fd ["state", "some"] spPick :=
  F.imp fun vs H Q E ⟨st, g, c, a, n, xs, e, S, hn, ha, ag, l0, l1, k⟩ => ⟨st, g, c, a, n, xs, e, S, hn, .inl ⟨ha, ag⟩, l0, l1, k⟩
end
section
variable {P : Program} {w : World} {K : PySem.W.Frag} {mg : Str → Option Value} {base : Heap}
theorem scSmall : FnScope ["state"] ["state"] (defScope s__law_small) := ⟨rfl, rfl, rfl, by decide +kernel, rfl, by decide +kernel, by decide +kernel⟩
theorem ok_small {f fD fP : Addr} {fd fdD fdP : FuncData} (F : Fun K "_law_small" "_law_small" s__law_small f fd)
    (FD : FnOk P w K mg base CX0 2 fD fdD ["state", "room"] spDraw) (mD : mg "_law_draw" = some (.ref fD)) (kD : PySem.W.keepIn K (.ref fD) = true) (bD : Binds K fdD ["state", "room"] [])
    (FP : FnOk P w K mg base CX0 3 fP fdP ["state", "some"] spPick) (mP : mg "_law_pick" = some (.ref fP)) (kP : PySem.W.keepIn K (.ref fP) = true) (bP : Binds K fdP ["state", "some"] []) :
    FnOk P w K mg base CX0 4 f fd ["state"] (spNo 2) := by
  refine F.ok scSmall (fun vs H Q E h => ?_) (fun cdv A outer s H vs Q E hr h => ?_)
  · obtain ⟨st, g, c, n, rfl, _⟩ := h
    rfl
  · obtain ⟨st, g, c, n, rfl, S, hn, k⟩ := h
    have nd := scSmall.nd
    have hr2 : Room 2 _ := hr.mono (by decide)
    refine ⟨_, pss_one (ps_ret (pe_call FP hr rfl mP kP bP .nil pass0 (pa_cons (pv 0) (pa_cons (pe_lst
      (pa_cons pe_int (pa_cons pe_int (pa_cons pe_int (pa_cons pe_int (pa_cons pe_int (pa_cons pe_int (pa_cons pe_int (pa_cons pe_int (pa_cons pe_int (pa_cons pe_int (pa_cons pe_int (pa_cons pe_int (pa_cons pe_int (pa_cons pe_int (pa_cons pe_int
      (pa_cons (pe_op op_add pe_int (pe_call FD hr2 rfl mD kD bD .nil pass0 (pa_cons (pv 0) (pa_cons pe_int pa_nil)))) pa_nil))))))))))))))))) pa_nil)))), ?_⟩
    refine ⟨_, rfl, _, rfl, st, g, c, n, 9999, rfl, S, by omega, by decide, by decide, fun z1 H1 z10 z11 S1 F1 => ?_⟩
    refine ⟨_, _, rfl, rfl, (by show 16 ≤ sizeLine; decide), fun l nl => ?_⟩
    have zl := S1.old nl
    have l0 : H l = none := F1.free nl zl.1 zl.2.1
    refine ⟨st, g, c, l, n + 1, _, rfl, S1.put zl, by omega, upd_same, zl.2.1, (by show 0 < 16; decide), (by show 16 ≤ 1000000; decide), fun x H2 hx S2 F2 => ?_⟩
    have F12 : Fr st g H H2 := (F1.out l0).trans F2
    have hx' : x ∈ ([.int 0, .int 1, .int 2, .int 3, .int 1, .int 0, .int 4, .int 5, .int 2, .int 9999, .int 7, .int 10, .int 9, .int 40, .int 9998, .int (1 + z1)] : List V) := hx
    simp only [List.mem_cons, List.not_mem_nil, or_false] at hx'
    rcases hx' with rfl | rfl | rfl | rfl | rfl | rfl | rfl | rfl | rfl | rfl | rfl | rfl | rfl | rfl | rfl | rfl
    all_goals exact k _ H2 (by omega) (by omega) S2 F12
end
end OH
end
section
set_option Elab.async false
set_option linter.all false
set_option maxRecDepth 100000
set_option maxHeartbeats 4000000
/-! enumerate over a tuple. -/
namespace OH
open PySem PySem.Spec PyProof.Rows L2
/-- what making an enumerate of anything that can be iterated leaves -/
theorem en_meets {v : Value} {o : Obj} {T : Heap → Prop} (B : Begins v o T) :
    Meets (Builtin.«enumerate.__new__» ⟨[.type "enumerate", v], []⟩) (fun _ R s => T s.heap ∧ R (.ok (.ret (.ref (s.heap.push o).objs.size)))
      { s with heap := (s.heap.push o).push { cls := .type "enumerate", data := .fields #[.none, .bool false, .ref s.heap.objs.size, rawInt 0, .none, .none] } }) :=
  Meets.of_wp fun prog w A R s hh => by
    obtain ⟨hp, gs, dr, tk, os⟩ := s
    obtain ⟨ht, hr⟩ := hh
    have hsub := sub_enumerate
    have go : ∀ {A' : Around} {E : Value → Shared → Prop} {Q : Value → Shared → Prop}, Q (.ref hp.objs.size) ⟨hp.push o, gs, dr, tk, os⟩ → wpAny (model prog w) A' (pyIter v) Q E ⟨hp, gs, dr, tk, os⟩ := fun q => B.iter prog w _ _ ⟨hp, gs, dr, tk, os⟩ _ ht q
    wp_walk using go
    refine wpAny_stack_any fun stk => wpAny_pure ?_
    split
    · next c _ _ _ _ _ =>
      cases (c == Value.type "enumerate") <;> (wp_walk using go; exact ⟨_, rfl, hr⟩)
    · wp_walk using go
      exact ⟨_, rfl, hr⟩
theorem en_call {prog : Program} {w : World} {A : Around} {E : Value → Shared → Prop} {s : Shared} {v : Value} {o : Obj} {T : Heap → Prop} {Q : Value → Shared → Prop} (B : Begins v o T) (ht : T s.heap)
    (h : ∀ h', IsEnum h' (s.heap.objs.size + 1) s.heap.objs.size 0 .none → h'.get? s.heap.objs.size = some o → (∀ b u, s.heap.get? b = some u → h'.get? b = some u) → Q (.ref (s.heap.objs.size + 1)) { s with heap := h' }) :
    wpAny (model prog w) A (call (.type "enumerate") [v]) Q E s := by
  refine callType_new F.called_enumerate (by decide) (F.typeCall_enumerate_1 _) (F.newCall_enumerate_1 _) (fun obj => F.args_object_init_2 obj _) F.entry_enumerate_new (en_meets B) ⟨ht, ?_⟩
  have hz : (s.heap.push o).objs.size = s.heap.objs.size + 1 := Heap.size_push ..
  show _ ∧ _
  rw [hz]
  have he : IsEnum ((s.heap.push o).push { cls := .type "enumerate", data := .fields #[.none, .bool false, .ref s.heap.objs.size, rawInt 0, .none, .none] }) (s.heap.objs.size + 1) s.heap.objs.size 0 .none := by
    have q := Heap.get?_push_size (s.heap.push o) (o := { cls := .type "enumerate", data := .fields #[.none, .bool false, .ref s.heap.objs.size, rawInt 0, .none, .none] }) rfl
    rw [hz] at q
    exact q
  exact ⟨⟨_, he, rfl⟩, h _ he (Heap.get?_push_of_some _ (Heap.get?_push_size _ B.free)) fun b u x => Heap.get?_push_of_some _ (Heap.get?_push_of_some _ x)⟩
/-- the tuple at a as it stands at each turn, each item in a new pair -/
def IteT (K : PySem.W.Frag) (a : Addr) : It :=
  ⟨fun i H => ∃ (xs : List V) (x : V), SqT K H a xs ∧ xs[i]? = some x,
   fun i H v H' => ∃ T x, v = .ref T ∧ H T = none ∧ H' = upd H T (.tup [.int (i : Nat), x]) ∧ ∀ ys, SqT K H a ys → ys[i]? = some x,
   fun i H => ∃ xs : List V, SqT K H a xs ∧ xs.length ≤ i⟩
theorem turn_enumT {P : Program} {w : World} {K : PySem.W.Frag} {elts : List Expr} {kk : Nat} {tpos : Pos} (a e it : Addr) :
    Turn P w K (.Tuple elts kk tpos) (IteT K a) [e, it] e (fun i h => (∃ old, IsEnum h e it ((i : Nat) : Int) old) ∧ h.IsTupleIter it a i ∧ e ≠ it) where
  mem := List.mem_cons_self ..
  obj := fun i h st b hb => by
    obtain ⟨⟨old, he⟩, ⟨o, ho, hc, hd⟩, _⟩ := st
    rcases List.mem_cons.mp hb with z | z
    · rw [z]; exact ⟨_, he, fun v q => nomatch q⟩
    · exact ⟨o, (List.mem_singleton.mp z) ▸ ho, fun v q => by rw [hd] at q; cases q⟩
  keep := fun i h h' st k => let ⟨⟨old, he⟩, hi, hne⟩ := st; ⟨⟨old, k e (List.mem_cons_self ..) _ he⟩, hi.at fun o q => k it (List.mem_cons_of_mem _ (List.mem_singleton.mpr rfl)) o q, hne⟩
  item := by
    intro X hP hw hK hc i pins s σ H E I hf st hg
    subst hP hw hK
    obtain ⟨⟨old, he⟩, hit, hne⟩ := st
    obtain ⟨xs, x, hq, hx⟩ := hg
    obtain ⟨its, rv, p, hz⟩ := I.tuple hq
    obtain ⟨u, hu, ru⟩ := rv.get hx
    have hT0 : s.heap.IsTuple a its.toArray := p
    have nai : a ≠ it := fun z => by
      obtain ⟨o1, q1, q2, _⟩ := hT0
      obtain ⟨o2, q3, q4, _⟩ := hit
      rw [z, q3] at q1
      cases q1
      rw [q4] at q2
      exact absurd q2 (by decide)
    have nae : a ≠ e := fun z => by
      obtain ⟨o1, q1, q2, _⟩ := hT0
      rw [z] at q1
      have q5 := (Option.some.inj (q1.symm.trans he))
      rw [q5] at q2
      exact absurd (show Value.type "enumerate" = Value.type "tuple" from q2) (by decide)
    have hel : e < s.heap.objs.size := Heap.lt_size he
    have hil : it < s.heap.objs.size := by obtain ⟨_, q, _⟩ := hit; exact Heap.lt_size q
    have hlt : i < its.toArray.size := by
      rw [List.size_toArray]
      exact (List.getElem?_eq_some_iff.mp hu).1
    refine wpAny_pyNext_enum_itemD (Draws.tuple (prog := X.prog) (w := X.w) (A := X.A.in1) (by have := I.ok.hd hc; simpa using this) it a nai its.toArray) he ⟨hit, hT0⟩ hlt hne (by
      intro z
      rcases List.mem_cons.mp z with z | z
      · exact hne z
      · exact nae (List.mem_singleton.mp z).symm) fun x' h' tk hP ho hst hT hsz hk => ?_
    obtain rfl : x' = u := by
      have q : its.toArray[i]? = some x' := hP
      rw [List.getElem?_toArray, hu] at q
      exact (Option.some.inj q).symm
    refine ⟨_, rfl, wpAny_letOwnedTupleGo_enum (s := { s with heap := h', toks := tk + 1 }) ho fun h'' he' sb => ?_⟩
    have hT2 : h''.get? s.heap.objs.size = some { cls := .type "tuple", data := .seq #[.int i tk, x'] } := (sb.2 _ (Nat.ne_of_gt hel)).trans hT
    have new : ObjOk X.prog X.w (upd H s.heap.objs.size (.tup [.int (i : Nat), x])) h'' s.heap.objs.size (.tup [.int (i : Nat), x]) :=
      ⟨by show 2 ≤ sizeLine; decide, [.int i tk, x'], .cons ⟨_, rfl⟩ (.cons ru .nil), ⟨_, hT2, rfl, _, rfl⟩⟩
    have I1 : Inv X pins σ (upd H s.heap.objs.size (.tup [.int (i : Nat), x])) { s with heap := h'', toks := tk + 1 } :=
      I.turnedNew (ch := [e, it]) (fun b ob hb q => (sb.2 b (fun z => hb (z ▸ List.mem_cons_self ..))).trans (hk b ob (fun z => hb (z ▸ List.mem_cons_self ..)) (fun z => hb (z ▸ List.mem_cons_of_mem _ (List.mem_singleton.mpr rfl))) q)) hf (Nat.le_refl _) new
    refine ⟨.ref s.heap.objs.size, _, I1, rfl, ⟨_, x, rfl, I.hok.fresh (Nat.le_refl _), rfl, fun ys hy => by rw [I.tuple_inj hy hq]; exact hx⟩, ⟨⟨x', ?_⟩, hst.1.at fun o q => (sb.2 it (Ne.symm hne)).trans q, hne⟩, fun b hb => ?_⟩
    · have e1 : ((i + 1 : Nat) : Int) = (i : Int) + 1 := by omega
      rw [e1]
      exact he'
    · have hb' : b < s.heap.objs.size := by
        rcases List.mem_cons.mp hb with z | z
        · rw [z]; exact hel
        · rw [List.mem_singleton.mp z]; exact hil
      rw [upd_ne (Nat.ne_of_lt hb')]
      exact (hf b hb).1
  done := by
    intro X hP hw hK hc i pins s σ H E I hf st hg
    subst hP hw hK
    obtain ⟨⟨old, he⟩, hit, hne⟩ := st
    obtain ⟨xs, hq, hx⟩ := hg
    obtain ⟨its, rv, p, hz⟩ := I.tuple hq
    have hT0 : s.heap.IsTuple a its.toArray := p
    obtain ⟨f0, f1, f2, f3, f4, f5⟩ := hf it (List.mem_cons_of_mem _ (List.mem_singleton.mpr rfl))
    have hl := rv.length
    have hT : s.TypeIs (.ref e) "enumerate" := ⟨_, he, rfl⟩
    unfold pyNext
    refine wpAny_bind (wpAny_attempt (wpAny_callSpecial?_slot (name := Str.ofString "__next__") hT F.slot_enumerate_next (wpAny_call_entry F.slot_enumerate_next hT F.entry_enumerate_next ?_ (F.args_enumerate_next_1 _))))
    show wpAny _ _ (field (.ref e) 2 >>= _) _ _ _
    refine wpAny_bind (wpAny_field he rfl (x := .ref it) rfl ?_)
    refine wpAny_bind (wpAny_nextOf_tuple_end (by have := I.ok.hd hc; simpa using this) hit hT0 (by rw [List.getElem?_toArray]; exact List.getElem?_eq_none (by omega)) fun h' x eb hx' => ?_)
    obtain ⟨o, ho, hcc⟩ := hx'
    refine wpAny_bind (wpAny_isInstance (T := "StopIteration") (b := true) ⟨o, ho, hcc⟩ isSubtype_stop (wpAny_pure ⟨rfl, I.turned (t' := s.toks) (fun b o hb q => eb b o hb q) f0 f1 f3 f4 f5⟩))
  self := fun A i s Q E st h => let ⟨⟨_, he⟩, _⟩ := st; wpAny_pyIter_enum he h
def iEnumT (K : PySem.W.Frag) (ta : TA) : TI := fun σ H R => ta σ H fun vs H1 => ∃ a xs, vs = [.ref a] ∧ SqT K H1 a xs ∧ R (IteT K a) H1
theorem pi_enumT {X : Cx} {e : Expr} {ta : TA} {p pos tpos : Pos} {elts : List Expr} {kk : Nat} (hg : Gl X "enumerate") (hm : X.mg "enumerate" = none) (ha : PA X [e] ta) (hs : starEach [e] X.env = [(false, eval e X.env)] := by rfl) :
    PI X (.Tuple elts kk tpos) (.Call (.Name "enumerate" p) [e] [] pos) (iEnumT X.K ta) := by
  refine ⟨fun pins s σ H R I h => ?_⟩
  refine Call_ (ld_blt I hg hm boot_enumerate (PyProof.Rows.callWith_type1 (thn (ha.run pos pins s σ H _ I h) fun us s1 ⟨vs, H1, I1, r1, a, xs, ex, hq, q⟩ => ?_) hs rfl))
  subst ex
  cases r1 with
  | cons r rr =>
    cases rr
    cases r
    obtain ⟨its, rv, p', hz⟩ := I1.tuple hq
    refine en_call (begins_tuple a its.toArray) p' fun h' he hit hk => wpAny_pyIter_enum he ?_
    have I2 : Inv X pins σ H1 { s1 with heap := h' } := I1.kept (t' := s1.toks) hk
    refine ⟨s1.heap.objs.size + 1, [s1.heap.objs.size + 1, s1.heap.objs.size], _, _, H1, rfl, I2, turn_enumT a (s1.heap.objs.size + 1) s1.heap.objs.size, ⟨⟨.none, he⟩, ⟨_, hit, rfl, rfl⟩, Nat.succ_ne_self _⟩, fun b hb => ?_, q⟩
    have hle : s1.heap.objs.size ≤ b := by
      rcases List.mem_cons.mp hb with z | z
      · rw [z]; exact Nat.le_add_right _ _
      · rw [List.mem_singleton.mp z]; exact Nat.le_refl _
    exact I1.fpOk hle (I1.hok.fresh hle)
/-- n turns of it, while the tuple stands -/
theorem walk_enumT {K : PySem.W.Frag} {a : Addr} {xs : List V} : Walk (IteT K a) xs.length (fun H => SqT K H a xs) (YPair (fun i => some (.int (i : Nat))) (fun i => xs[i]?)) := by
  refine ⟨fun i _ hi q => ⟨xs, xs[i], q, List.getElem?_eq_getElem hi⟩, fun _ q => ⟨xs, q, Nat.le_refl _⟩, fun i H v H' _ q y => ?_⟩
  obtain ⟨T, x, h1, h2, h3, h4⟩ := y
  exact ⟨T, .int (i : Nat), x, h1, h2, h3, rfl, h4 xs q⟩
end OH
end
section
set_option Elab.async false
set_option linter.all false
set_option maxRecDepth 100000
set_option maxHeartbeats 4000000
/-! len(set(t)), t a tuple of tuples of ints. -/
namespace OH
open PySem PySem.Spec PyProof.Rows L2
abbrev set0 (w : World) : Obj := { cls := .type "set", dict := none, data := .set #[] 0 (.fresh 0 0 (!w.params.followText "set-order")) }
section
variable {P : Program} {w : World} {A : Around} {E : Value → Shared → Prop} {s : Shared}
set_option maxHeartbeats 6400000 in
theorem set_of_tup {l : Addr} {its : Array Value} (ks : List (Addr × List Int)) {Q : Value → Shared → Prop} (hh : A.handled = none) (ht : s.heap.IsTuple l its) (hi : its.toList = ks.map fun p => Value.ref p.1)
    (hk : ∀ p ∈ ks, IsT P w s.heap p.2 p.1) (few : ks.length < 64) (hu : A.units + 3 < cLine)
    (kk : ∀ (h' : Heap) (tk : Nat) L es ep t, SetTR P w h' s.heap.objs.size L es ep t → Got ks ks.length L → (∀ b o, s.heap.get? b = some o → h'.get? b = some o) → Q (.ref s.heap.objs.size) { s with heap := h', toks := tk }) :
    wpAny (model P w) A (call (.type "set") [.ref l]) Q E s := by
  have isz : its.size = ks.length := by
    have q := congrArg List.length hi
    rwa [Array.length_toList, List.length_map] at q
  obtain ⟨c, tl, hmro⟩ := PySem.F.called_set.mro
  have m1 := PySem.F.called_set.made
  have m2 := PySem.F.called_set.sub
  have m3 := PySem.F.called_set.notType
  have m4 := PySem.F.called_set.canCreate
  have m5 := PySem.F.typeCall_set_1 (.ref l)
  refine wpAny_call (codeAny_of_tree ?_)
  show wpAny _ _ (callAny (.type "set") _) _ _ _
  refine wpAny_pure ⟨Code.quiet_builtin _ (by decide +kernel), codeAny_builtin PySem.F.entry_type_call ?_⟩
  rw [Around.under_plain (weight_type_call_type "set" [.ref l] []) rfl]
  repeat (any_goals (first | assumption | wp_step))
  refine codeAny_mono (code_set_led1 (.ref l) (E := E) (Q₁ := fun v s₁ => v = .ref s.heap.objs.size ∧ s₁ = { s with heap := s.heap.push (set0 w) }) ⟨rfl, rfl⟩) fun r s₁ hr => ?_
  cases r with
  | error er => exact hr
  | ok fl =>
    cases fl with
    | ret v =>
      obtain ⟨rfl, rfl⟩ := hr
      have hS : (s.heap.push (set0 w)).get? s.heap.objs.size = some (set0 w) := Heap.get?_push_size _ rfl
      have hT : Shared.TypeIs { s with heap := s.heap.push (set0 w) } (.ref s.heap.objs.size) "set" := ⟨_, hS, rfl⟩
      have n1 := PySem.F.called_set.init.lookup
      have n2 := PySem.F.called_set.init.bind (.ref s.heap.objs.size)
      repeat (any_goals (first | assumption | wp_step))
      refine codeAny_mono (codeAny_call_builtin (R := wants (fun r s₂ => r = .none ∧ ∃ h' tk L es ep t, s₂ = { s with heap := h', toks := tk } ∧ SetTR P w h' s.heap.objs.size L es ep t ∧ Got ks ks.length L ∧ (∀ b o, s.heap.get? b = some o → h'.get? b = some o)) E)
        PySem.F.called_set.init.plain PySem.F.entry_set_init (check_set_init_1 hT ?_)) fun r₂ s₂ hr₂ => ?_
      · obtain ⟨⟨c1, c2, c3, c4⟩, hol, hcl, nl, hdl⟩ := ht
        simp only at hcl hdl
        subst hcl hdl
        have hol' : (s.heap.push (set0 w)).get? l = some { cls := .type "tuple", dict := c2, data := .seq its nl, slots := c4 } := Heap.get?_push_of_some _ hol
        have q1 := PySem.F.sub_tuple_set
        have q2 := PySem.F.sub_tuple_frozenset
        have q3 : (Value.type "tuple" == Value.type "dict") = false := by decide
        have ht1 : (s.heap.push (set0 w)).IsTuple l its := ⟨_, hol', rfl, nl, rfl⟩
        unfold Builtin.«set.__init__» noKeywords Builtin.Frozenset.updateFrom
        generalize hPI : pyIter = PI
        wp_walk
        subst hPI
        refine wpAny_pyIter_tuple ht1 (wpAny_bind (wpAny_runValue ?_))
        have below : l < s.heap.objs.size := Heap.lt_size hol
        have h3 : A.in1.in1.in1.handled = none := by simp [hh]
        have szp : (s.heap.push (set0 w)).objs.size = s.heap.objs.size + 1 := Heap.size_push ..
        have apart : l ≠ (s.heap.push (set0 w)).objs.size := by
          rw [szp]
          exact Nat.ne_of_lt (Nat.lt_succ_of_lt below)
        have outS : s.heap.objs.size ∉ [(s.heap.push (set0 w)).objs.size, l] := by
          rw [szp]
          intro z
          rcases List.mem_cons.mp z with z | z
          · exact absurd z (Nat.ne_of_lt (Nat.lt_succ_self _))
          · exact absurd (List.mem_singleton.mp z) (Nat.ne_of_gt below)
        have vals : ∀ (i : Nat) (v : Value), its[i]? = some v → ∃ p, ks[i]? = some p ∧ v = .ref p.1 := fun i v hv => by
          have q : its.toList[i]? = some v := by rw [Array.getElem?_toList]; exact hv
          rw [hi, List.getElem?_map] at q
          obtain ⟨p, e1, e2⟩ := Option.map_eq_some_iff.mp q
          exact ⟨p, e1, e2.symm⟩
        have fresh : ∀ b, s.heap.objs.size ≤ b → s.heap.get? b = none := fun b hb => by
          cases q : s.heap.get? b with
          | none => rfl
          | some o => exact absurd (Nat.lt_of_lt_of_le (Heap.lt_size q) hb) (Nat.lt_irrefl _)
        refine set_update_tups ((Walks.tuple h3 _ l apart its).toS) s.heap.objs.size outS ks isz few vals s.heap hk (fresh _ (Nat.le_refl _)) (fun b hb => fresh b (by
            rw [List.mem_singleton.mp hb, szp]
            exact Nat.le_succ _)) hu (its.size - 0) 0 _ (by omega) (Nat.zero_le _)
          ⟨⟨_, Heap.get?_push_size _ rfl, rfl, rfl⟩, ht1.push _⟩ (fun b o e => Heap.get?_push_of_some _ (Heap.get?_push_of_some _ e)) ?first ?last
        case first =>
          have g0 : ((s.heap.push (set0 w)).push { cls := .type "tuple_iterator", data := .fields #[.ref l, .int 0 0] }).get? s.heap.objs.size = some (set0 w) := Heap.get?_push_of_some _ hS
          exact ⟨[], #[], 0, _, setTR_fresh g0, Got.zero ks⟩
        case last =>
          intro s' L es ep t mv R g kp
          obtain ⟨h', g2, d2, tk, o2⟩ := s'
          have e1 : g2 = s.gens := mv.gens
          have e2 : d2 = s.drawn := mv.drawn
          have e3 : o2 = s.os := mv.os
          subst e1 e2 e3
          show wpAny _ _ _ _ _ _
          refine wpAny_pure ?_
          show wpAny _ _ (ret Value.none) _ _ _
          rw [isz] at g
          exact wpAny_pure ⟨rfl, h', tk, L, es, ep, t, rfl, R, g, kp⟩
      · cases r₂ with
        | error er => exact hr₂
        | ok f₂ =>
          cases f₂ with
          | ret r =>
            obtain ⟨rfl, h', tk, L, es, ep, t, rfl, R, g, kp⟩ := hr₂
            repeat (any_goals (first | assumption | wp_step))
            exact kk _ _ _ _ _ _ R g kp
          | _ => exact hr₂.elim
    | _ => exact hr.elim
end
theorem nodup_le {α : Type} [DecidableEq α] : ∀ (l D : List α), l.Nodup → (∀ x ∈ l, x ∈ D) → l.length ≤ D.length
  | [], _, _, _ => Nat.zero_le _
  | x :: l, D, hn, hs => by
    obtain ⟨h1, h2⟩ := List.nodup_cons.mp hn
    have hx : x ∈ D := hs x List.mem_cons_self
    have ih := nodup_le l (D.erase x) h2 fun y hy => (by
      have ne : y ≠ x := fun e => h1 (by rw [← e]; exact hy)
      exact (List.mem_erase_of_ne ne).2 (hs y (List.mem_cons_of_mem _ hy)))
    rw [List.length_erase_of_mem hx] at ih
    have := List.length_pos_of_mem hx
    rw [List.length_cons]
    omega
/-- a list that holds all of a list without doubles that is as long has none either -/
theorem nodup_of_le {α : Type} [DecidableEq α] : ∀ (l D : List α), D.Nodup → (∀ x ∈ D, x ∈ l) → l.length ≤ D.length → l.Nodup
  | [], _, _, _, _ => List.nodup_nil
  | x :: l, D, hn, hs, hl => by
    have cover : ∀ (T : List α), T.Nodup → (∀ y ∈ T, y ∈ l) → T.length ≤ l.length := fun T h1 h2 => nodup_le T l h1 h2
    by_cases hx : x ∈ l
    · have q := cover D hn fun y hy => (List.mem_cons.mp (hs y hy)).elim (fun e => by rw [e]; exact hx) id
      rw [List.length_cons] at hl
      omega
    · refine List.nodup_cons.mpr ⟨hx, nodup_of_le l (D.erase x) (hn.erase x) (fun y hy => ?_) ?_⟩
      · have hy2 := List.mem_of_mem_erase hy
        rcases List.mem_cons.mp (hs y hy2) with e | z
        · rw [e] at hy
          exact absurd hy (fun h => by rw [List.Nodup.mem_erase_iff hn] at h; exact h.1 rfl)
        · exact z
      · have hxD : x ∈ D := by
          refine Classical.byContradiction fun nx => ?_
          have q := cover D hn fun y hy => (List.mem_cons.mp (hs y hy)).elim (fun e => absurd (show x ∈ D by rw [← e]; exact hy) nx) id
          rw [List.length_cons] at hl
          omega
        rw [List.length_erase_of_mem hxD]
        rw [List.length_cons] at hl
        omega
def tLenSetT (K : PySem.W.Frag) (ta : TE) : TE := fun σ H Q => ta σ H fun x H1 => ∃ (l : Addr) (ks : List (Addr × List Int)), x = .ref l ∧ SqT K H1 l (ks.map fun p => V.ref p.1) ∧ (∀ p ∈ ks, SqT K H1 p.1 (p.2.map V.int)) ∧ ks.length < 64 ∧
  ∀ n : Nat, (n = ks.length ↔ (ks.map (·.2)).Nodup) → Q (.int n) H1
theorem pe_lenSetT {X : Cx} {a : Expr} {ta : TE} {p p2 q pos : Pos} (hu : X.A.units + 64 < cLine) (hg : Gl X "len") (hm : X.mg "len" = none) (hg2 : Gl X "set") (hm2 : X.mg "set" = none) (ha : PE X a ta) (hc : X.calm = true := by rfl)
    (na : starEach [a] X.env = (false, eval a X.env) :: starEach [] X.env := by rfl) : PE X (.Call (.Name "len" p) [.Call (.Name "set" p2) [a] [] q] [] pos) (tLenSetT X.K ta) := by
  refine ⟨fun pins s σ H Q I h => ?_⟩
  refine Call_ (ld_blt I hg hm boot_len (PyProof.Rows.callWith_builtin1 (PyProof.Rows.args_cons ?_ rfl) rfl rfl))
  refine Call_ (ld_blt I hg2 hm2 boot_set (PyProof.Rows.callWith_type1 (PyProof.Rows.args_cons (thn (ha.run pins s σ H _ I h) fun v s1 ⟨x, H1, I1, r1, l, ks, ex, hq, hk, hf, q1⟩ => PyProof.Rows.args_nil ?_) na) na rfl))
  subst ex
  cases r1
  obtain ⟨its, r, pl, hz⟩ := I1.tuple hq
  refine set_of_tup (P := X.prog) (w := X.w) ks (I1.ok.hd hc) pl (by simpa using refs_of_vals r) (fun p hp => I1.isT (hk p hp)) hf (by omega) fun h' tk L es ep t R g kp => ?_
  refine PyProof.Rows.args_nil ?_
  obtain ⟨o, ho, hex, hd⟩ := R.ob
  have I2 : Inv X pins σ H1 { s1 with heap := h', toks := tk } := I1.kept fun b o e => kp b o e
  have es1 : es.size = L.length := R.size (s := { s1 with heap := h', toks := tk })
  have few := R.few
  refine call_len_set ho hex hd (R.fits (s := { s1 with heap := h', toks := tk })) (by rw [es1]; omega) ⟨.int L.length, H1, I2.tok _, ⟨_, by rw [es1]⟩, q1 L.length ⟨fun e => ?_, fun nd => ?_⟩⟩
  · refine nodup_of_le _ (L.map (·.2)) R.nd (fun y hy => ?_) (by rw [List.length_map, List.length_map, e]; exact Nat.le_refl _)
    obtain ⟨p, hp, rfl⟩ := List.mem_map.mp hy
    exact List.mem_map.mpr ⟨p, List.mem_of_mem_take (g.sub p hp), rfl⟩
  · have q1 := nodup_le (ks.map (·.2)) (L.map (·.2)) nd (fun y hy => by
      obtain ⟨p, hp, rfl⟩ := List.mem_map.mp hy
      exact g.all p (by rw [List.take_length]; exact hp))
    rw [List.length_map, List.length_map] at q1
    have := g.len
    omega
end OH
end
section
set_option Elab.async false
set_option linter.all false
set_option maxRecDepth 100000
set_option maxHeartbeats 4000000
/-! Defs, methods, classes and properties with all that a call of them asks, in one word each. -/
namespace OH
open PySem PySem.Spec PyProof.Rows L2
section
variable (P : Program) (w : World) (K : PySem.W.Frag) (mg : Str → Option Value) (base : Heap) (CX : CXT) (k : Nat)
/-- the top's def of that name -/
def DefF (x : Str) (ps : List Str) (sp : Sp) : Prop := ∃ (f : Addr) (fd : FuncData), FnOk P w K mg base CX k f fd ps sp ∧ mg x = some (.ref f) ∧ PySem.W.keepIn K (.ref f) = true ∧ Binds K fd ps []
/-- the class's method of that name -/
def MetF (C : Addr) (m : Str) (ps : List Str) (sp : Sp) : Prop := ∃ (f : Addr) (fd : FuncData), FnOk P w K mg base CX k f fd ps sp ∧ Meth K C m f ∧ Binds K fd ps []
/-- the class itself, by its __init__ -/
def MakF (x : Str) (C : Addr) (ps : List Str) (sp : Sp) : Prop := ∃ (f : Addr) (fd : FuncData), FnOk P w K mg base CX k f fd ps sp ∧ Mk K C f ∧ mg x = some (.ref C) ∧ Binds K fd ps []
/-- the class's property of that name -/
def ProF (C : Addr) (m : Str) (sp : Sp) : Prop := ∃ (p g : Addr) (fd : FuncData), FnOk P w K mg base CX k g fd ["self"] sp ∧ PropOf K C m p g ∧ Binds K fd ["self"] []
end
section
variable {P : Program} {w : World} {K : PySem.W.Frag} {mg : Str → Option Value} {base : Heap} {CX : CXT} {j k : Nat} {x m : Str} {C : Addr} {ps : List Str} {sp sp' : Sp}
theorem DefF.mono (D : DefF P w K mg base CX j x ps sp) (h : j ≤ k) : DefF P w K mg base CX k x ps sp := let ⟨f, fd, F, r⟩ := D; ⟨f, fd, F.mono h, r⟩
theorem MetF.mono (D : MetF P w K mg base CX j C m ps sp) (h : j ≤ k) : MetF P w K mg base CX k C m ps sp := let ⟨f, fd, F, r⟩ := D; ⟨f, fd, F.mono h, r⟩
theorem MakF.mono (D : MakF P w K mg base CX j x C ps sp) (h : j ≤ k) : MakF P w K mg base CX k x C ps sp := let ⟨f, fd, F, r⟩ := D; ⟨f, fd, F.mono h, r⟩
theorem ProF.mono (D : ProF P w K mg base CX j C m sp) (h : j ≤ k) : ProF P w K mg base CX k C m sp := let ⟨f, fd, g, F, r⟩ := D; ⟨f, fd, g, F.mono h, r⟩
theorem DefF.imp (D : DefF P w K mg base CX k x ps sp) (h : ∀ vs H Q E, sp' vs H Q E → sp vs H Q E) : DefF P w K mg base CX k x ps sp' := let ⟨f, fd, F, r⟩ := D; ⟨f, fd, F.imp h, r⟩
theorem MetF.imp (D : MetF P w K mg base CX k C m ps sp) (h : ∀ vs H Q E, sp' vs H Q E → sp vs H Q E) : MetF P w K mg base CX k C m ps sp' := let ⟨f, fd, F, r⟩ := D; ⟨f, fd, F.imp h, r⟩
end
section
variable {X : Cx} {CX : CXT} {k : Nat} {C : Addr} {ps : List Str} {sp : Sp} {E : XK} {x m : Str} {p pos apos : Pos} {e o : Expr} {es : List Expr} {ta : TE} {t : TA}
theorem pe_cD (D : DefF X.prog X.w X.K X.mg X.base CX k x ps sp) (hr : Room k X.A) (hg : Gl X x) (hx : Passes CX X E) (ha : PA X (e :: es) t) (hdb : (x == ("__debug__" : Str)) = false := by decide)
    (he : starEach (e :: es) X.env = (false, eval e X.env) :: starEach es X.env := by rfl) (hpl : (backTo pos (starEach es X.env)).any (·.1) = false := by rfl) :
    PE X (.Call (.Name x p) (e :: es) [] pos) (tCall sp [] E t) := by
  obtain ⟨f, fd, F, h1, h2, h3⟩ := D
  exact pe_call F hr hg h1 h2 h3 .nil hx ha hdb he hpl
theorem pe_mD {pl : Sem Bool} (he : PE X o ta) (c : Cls X.K C) (D : MetF X.prog X.w X.K X.mg X.base CX k C m ps sp) (hr : Room k X.A) (hx : Passes CX X E) (ha : PA X (e :: es) t)
    (hst : starEach (e :: es) X.env = (false, eval e X.env) :: starEach es X.env := by rfl) (hpl : (backTo pos (starEach es X.env)).any (·.1) = false := by rfl)
    (ht : eval (.Call (.Attribute o m apos) (e :: es) [] pos) X.env = (do
      let ov ← eval o X.env
      standAt apos.atName
      let (f, first) ← holding [ov] (getMethod ov m pl)
      callWith pos f first (backTo pos (starEach (e :: es) X.env)) (backToKw pos (keywordEach [] X.env))) := by rfl) :
    PE X (.Call (.Attribute o m apos) (e :: es) [] pos) (tMeth C m sp [] E ta t) := by
  obtain ⟨f, fd, F, h1, h2⟩ := D
  exact pe_meth he c h1 F hr h2 .nil hx ha hst hpl ht
theorem pe_mD0 {pl : Sem Bool} (he : PE X o ta) (c : Cls X.K C) (D : MetF X.prog X.w X.K X.mg X.base CX k C m ps sp) (hr : Room k X.A) (hx : Passes CX X E)
    (ht : eval (.Call (.Attribute o m apos) [] [] pos) X.env = (do
      let ov ← eval o X.env
      standAt apos.atName
      let (f, first) ← holding [ov] (getMethod ov m pl)
      callWith pos f first (backTo pos (starEach [] X.env)) (backToKw pos (keywordEach [] X.env))) := by rfl) :
    PE X (.Call (.Attribute o m apos) [] [] pos) (tMeth C m sp [] E ta tNil) := by
  obtain ⟨f, fd, F, h1, h2⟩ := D
  exact pe_meth0 he c h1 F hr h2 .nil hx ht
theorem pe_kD (D : MakF X.prog X.w X.K X.mg X.base CX k x C ps sp) (hr : Room (k + 1) X.A) (hg : Gl X x) (hx : Passes CX X E) (ha : PA X (e :: es) t) (hdb : (x == ("__debug__" : Str)) = false := by decide)
    (he : starEach (e :: es) X.env = (false, eval e X.env) :: starEach es X.env := by rfl) (hpl : (backTo pos (starEach es X.env)).any (·.1) = false := by rfl) :
    PE X (.Call (.Name x p) (e :: es) [] pos) (tMake C sp [] E t) := by
  obtain ⟨f, fd, F, h1, h2, h3⟩ := D
  exact pe_make h1 F hr hg h2 h3 .nil hx ha hdb he hpl
theorem pe_pD (he : PE X e ta) (c : Cls X.K C) (D : ProF X.prog X.w X.K X.mg X.base CX k C m sp) (hr : Room (k + 1) X.A) (hx : Passes CX X.nox E) (hab : attributeBase e m X.env (eval e X.env) = eval e X.env) :
    PE X (.Attribute e m pos) (tProp C sp [] E ta) := by
  obtain ⟨q, g, fd, F, h1, h2⟩ := D
  exact pe_prop he c h1 F hr h2 .nil hx hab
end
end OH
end
section
set_option Elab.async false
set_option linter.all false
set_option maxRecDepth 100000
set_option maxHeartbeats 4000000
/-! An own error whose __init__ says super().__init__(..) and then sets its fields. -/
namespace OH
open PySem PySem.Spec PyProof.Rows L2
/-- the context of such an __init__, in which the class stands as __class__ -/
def cxS (CX : CXT) (P : Program) (w : World) (K : PySem.W.Frag) (mg : Str → Option Value) (base : Heap) (N : List Str) (qual : Str) (scope : Scope) (f : Addr) (cd : Value) (cc : Addr) (A : Around) (outer : List Env) (s : Shared) (H : Hp) (E : XK) : Cx where
  prog := P
  w := w
  K := K
  mg := mg
  base := base
  A := A.deeper (PySem.W.ksEnv qual scope s.heap.objs.size f cd cc)
  N := N
  s_0 := s
  H_0 := H
  env := PySem.W.ksEnv qual scope s.heap.objs.size f cd cc
  outer := outer
  stack := PySem.W.ksEnv qual scope s.heap.objs.size f cd cc :: outer
  ex := []
  calm := true
  fn := fun _ => false
  pn := []
  xe := fun e s' => wpAny (model P w) (A.deeper (PySem.W.ksEnv qual scope s.heap.objs.size f cd cc)) (leaving (PySem.W.ksEnv qual scope s.heap.objs.size f cd cc) e) (fun _ s'' => CX outer H s E e s'') (fun e' s'' => CX outer H s E e' s'') s'
structure ScopeS (N ps : List Str) (sc : Scope) : Prop where
  kind : sc.kind = .function
  co : sc.isCoroutine = false
  gen : sc.isGenerator = false
  nd : N.Nodup
  pre : N.take ps.length = ps
  par : ∀ x ∈ ps, sc.names.lookup x = some .local
  nocell : ∀ y ∈ sc.names, y.2 ≠ .cell
  free : ∀ y ∈ sc.names, y.2 = .free → y.1 = "__class__"
  sup : sc.names.lookup ("super" : Str) = some .globalImplicit
  cls : sc.names.lookup ("__class__" : Str) = some .free
theorem rev_lookup : ∀ {ps : List Str} {us : List Value} {i : Nat} {y : Str} {u : Value}, ps.Nodup → ps[i]? = some y → us[i]? = some u → (ps.zip us).reverse.lookup y = some u
  | [], _, _, _, _, _, h, _ => by simp at h
  | _ :: _, [], _, _, _, _, _, h => by simp at h
  | p :: ps, v :: us, 0, y, u, nd, h1, h2 => by
    simp at h1 h2
    subst h1
    subst h2
    rw [List.zip_cons_cons, List.reverse_cons, List.lookup_append]
    have e : (ps.zip us).reverse.lookup p = none := by
      refine List.lookup_eq_none_iff.mpr fun q hq => ?_
      have hq' := List.mem_reverse.mp hq
      have hm : q.1 ∈ ps := by
        obtain ⟨q1, q2⟩ := q
        exact (List.of_mem_zip hq').1
      have ne : p ≠ q.1 := fun z => (List.nodup_cons.mp nd).1 (z ▸ hm)
      simpa using ne
    rw [e]
    simp [List.lookup]
  | p :: ps, v :: us, i + 1, y, u, nd, h1, h2 => by
    rw [List.zip_cons_cons, List.reverse_cons, List.lookup_append, rev_lookup (i := i) (List.nodup_cons.mp nd).2 (by simpa using h1) (by simpa using h2)]
    rfl
section
variable {CX : CXT} {P : Program} {w : World} {K : PySem.W.Frag} {mg : Str → Option Value} {base : Heap} {N ps : List Str} {qual : Str} {scope : Scope} {f cc : Addr} {cd : Value} {A : Around} {outer : List Env} {s : Shared} {H : Hp} {E : XK} {us : List Value} {vs : List V}
theorem invS_start {h₁ : Heap} {t : Nat} (S : ScopeS N ps scope) (hd : A.handled = none) (e0 : Env0 P w K mg base A outer s H) (hl : vs.length = ps.length) (r : Vals vs us)
    (hcc : ∃ o v, base.get? cc = some o ∧ o.data = .cell v) (hns : h₁.Ns s.heap.objs.size (fun y => (ps.zip us).reverse.lookup y)) (hk : ∀ b o, s.heap.get? b = some o → h₁.get? b = some o) :
    Inv (cxS CX P w K mg base N qual scope f cd cc A outer s H E) [] (L2.start N vs) H { s with heap := h₁, toks := t } := by
  have hpl : ps.length ≤ N.length := by have := congrArg List.length S.pre; rw [List.length_take] at this; omega
  have noA : ∀ b : Addr, b ∉ (cxS CX P w K mg base N qual scope f cd cc A outer s H E).ex := fun b z => absurd (show b ∈ ([] : List Addr) from z) (by simp)
  have one : ∀ {x : Str} {c : Addr}, (cxS CX P w K mg base N qual scope f cd cc A outer s H E).env.cells.lookup x = some c → x = "__class__" ∧ c = cc := fun {x c} h => by
    have h' : List.lookup x [(("__class__" : Str), cc)] = some c := h
    unfold List.lookup at h'
    split at h'
    · rename_i z
      exact ⟨by simpa using z, (Option.some.inj h').symm⟩
    · cases h'
  obtain ⟨oc, vc, hoc, hdc⟩ := hcc
  obtain ⟨hcs, hcH⟩ := e0.bs cc oc hoc
  have cellOk : ∀ x c, (cxS CX P w K mg base N qual scope f cd cc A outer s H E).env.cells.lookup x = some c → ∃ v, h₁.IsCell c v := fun x c h => by
    obtain ⟨_, rfl⟩ := one h
    exact ⟨vc, oc, hk _ _ hcs, hdc⟩
  refine ⟨⟨e0.mod, S.kind, rfl, rfl, Nat.le_refl _, fun y z c h1 h2 => ?_, fun y hy => ?_, fun y c h _ => ?_, fun _ => hd, Around.frames_deeper e0.frames, .inr ⟨rfl, rfl⟩, fun b z => absurd z (noA b), e0.bs, e0.bsz, fun b _ _ => noA b, fun b z => absurd z (noA b), e0.funs, e0.frf⟩,
    rfl, e0.bare, Un.kept hk, ⟨_, hns, fun i y v h1 h2 h3 => ?_⟩, cellOk, e0.hok.fresh (Nat.le_refl _), fun y c h => ?_, fun p hp => absurd (show p ∈ ([] : List (Addr × Obj)) from hp) (by simp), e0.hok.kept hk, ?_⟩
  · exact (one h1).1.trans (one h2).1.symm
  · have hy : scope.names.lookup y = some .cell ∨ scope.names.lookup y = some .free := hy
    rcases hy with hy | hy
    · exact absurd rfl (S.nocell _ (PySem.mem_of_lookup hy))
    · have e := S.free _ (PySem.mem_of_lookup hy) rfl
      have e' : y = "__class__" := e
      subst e'
      exact ⟨cc, by show List.lookup ("__class__" : Str) [(("__class__" : Str), cc)] = some cc; simp [List.lookup]⟩
  · cases h
  · have hi : i < vs.length := by
      unfold L2.start at h2
      by_cases hi : i < vs.length
      · exact hi
      · rw [List.getElem?_append_right (by simpa using hi)] at h2
        rw [List.getElem?_replicate] at h2
        split at h2 <;> cases h2
    have ha : vs[i]? = some v := by
      unfold L2.start at h2
      rw [List.getElem?_append_left (by simpa using hi), List.getElem?_map] at h2
      cases e : vs[i]? with
      | none => rw [e] at h2; cases h2
      | some a => rw [e] at h2; cases h2; rfl
    obtain ⟨u, hu, rv⟩ := r.get ha
    have hp : ps[i]? = some y := by
      rw [← S.pre, List.getElem?_take_of_lt (by omega)]; exact h1
    have ndP : ps.Nodup := by rw [← S.pre]; exact S.nd.sublist (List.take_sublist _ _)
    exact ⟨u, rv, .inl ⟨S.par y (List.mem_of_getElem? hp), rev_lookup ndP hp hu⟩⟩
  · obtain ⟨_, rfl⟩ := one h
    exact hcH
  · unfold L2.start
    show _ = N.length
    rw [List.length_append, List.length_map, List.length_replicate]
    omega
end
/-- such an __init__ as it stands behind the top: of the class at D, its __class__ in the cell at cc -/
structure FunS (P : Program) (K : PySem.W.Frag) (x qual : Str) (st : Stmt) (f : Addr) (fd : FuncData) (D cc : Addr) : Prop where
  ex : ∃ (oc : Value) (od : Option Addr) (kV doc pm : Value) (an : Option Addr) (cda : Addr) (ct : Value) (osl : Array (Option Value)),
    fd = PySem.W.ksFn x qual (defArgs st) (defBody st) (defScope st) .none kV doc pm an (.ref cda) ct cc ∧ K.lookup f = some ⟨oc, od, .func fd, osl⟩ ∧ PySem.W.codeIn K (.ref cda) qual = true ∧
    ∃ (ccl : Value) (cdd : Option Addr) (cvs : Array Value) (ccs : Array (Option Value)) (file : Str) (tf : Tok), K.lookup cda = some ⟨ccl, cdd, .fields cvs, ccs⟩ ∧ cvs[2]? = some (.str file tf) ∧ ((P.main.file : Str) == file) = true
  kp : PySem.W.keepIn K (.ref f) = true
  cell : ∃ cl cld csl, K.lookup cc = some ⟨cl, cld, .cell (some (.ref D)), csl⟩
  self : ∃ ar, ((defArgs st).posonlyargs ++ (defArgs st).args).head? = some ar ∧ ar.arg = "self"
/-- what super() asks of the class -/
structure SupC (P : Program) (K : PySem.W.Frag) (mg : Str → Option Value) (C : Addr) : Prop extends OexC K C where
  mS : mg "super" = none
  top : (P.main.scope.names.lookup ("super" : Str)).isSome = false
  any : PySem.W.nsIn K PySem.cStatics "thirdparty.any" = some none
  up : PySem.W.ks_superIn K C C "__init__" = some (some (.builtin "ValueError.__init__"))
  ve : PySem.W.subIn K (.ref C) (.type "ValueError") = some true
  own : PySem.W.mroIn K C (.ref C) = some true
theorem boot_super : bootBuiltins "super" = some (.type "super") := by decide +kernel
section
variable {X : Cx} {pins : List (Addr × Obj)} {σ : L2.St} {H : Hp} {s : Shared} {a C u : Addr}
/-- the bound built-in __init__ is called -/
theorem call_mw {us : List Value} {Q : Value → Shared → Prop} {E : Value → Shared → Prop} {A : Around} (T : OexC X.K C) (I : Inv X pins σ H s) (hu : s.heap.get? u = some (PySem.W.kxs_mw "ValueError.__init__" a)) (e : H a = some (exo a C none)) (hl : us.length ≤ sizeLine)
    (h : ∀ s', Inv X pins σ H s' → Q .none s') : wpAny (model X.prog X.w) A (call (.ref u) us) Q E s := by
  obtain ⟨nm, q, N, bs, bm, sn, sub, ab, col, dd, k0, k1, k2, k3, k5, hC, hbm⟩ := T.cls
  obtain ⟨t1, ho⟩ := exo_at I.hok e
  have kI := I.kIn
  obtain ⟨hp, g, d, t, os⟩ := s
  refine wpAny_call (codeAny_of_tree ?_)
  show wpAny _ A.in1 (callAny (.ref u) ⟨us, []⟩) _ _ _
  simp only [callAny]
  refine wpAny_bind (wpAny_load hu ?_)
  simp only [PySem.W.kxs_mw, show (Value.type "method-wrapper" == Value.type "method" || Value.type "method-wrapper" == Value.type "builtin_function_or_method" || Value.type "method-wrapper" == Value.type "method-wrapper") = true by decide, if_true]
  refine PySem.W.KFB.if_so (by decide) ?_
  refine wpAny_bind (PySem.W.check_bound_init F.excBase_ValueError.toExcCallFacts (kI _ _ hC) ho rfl ?_)
  refine wpAny_bind (wpAny_pure (wpAny_pure ?_))
  refine ⟨plainId_quiet F.excBase_ValueError.init.plain _, codeAny_builtin F.excBase_ValueError.initEntry ?_⟩
  refine PySem.W.exc_init_tree (cls := .ref C) (t0 := t1) (dv := none) (c2 := .none) (c3 := .none) (b4 := .bool false) ho hl fun h' k hx _ => ?_
  have J := I.write (t' := t) (x := a) (e := a) (o := exo a C none) (by rw [e]; exact True.intro) (.inl rfl) k ⟨_, hx⟩ (exo_ok hx)
  have eu : upd H a (exo a C none) = H := by
    funext b
    by_cases hb : b = a
    · rw [hb, upd_same, e]
    · rw [upd_ne hb]
  rw [eu] at J
  exact h _ J
end
section
variable {P : Program} {w : World} {K : PySem.W.Frag} {mg : Str → Option Value} {base : Heap}
/-- THE RULE for an __init__ that begins with super().__init__(e) -/
theorem FunS.ok {x qual : Str} {st : Stmt} {f C cc : Addr} {fd : FuncData} {N ps : List Str} {k : Nat} {sp : Sp} {e : Expr} {rest : List Stmt} {p0 p1 p2 p3 p4 : Pos} {pl : Env → Sem Bool} (F : FunS P K x qual st f fd C cc) (T : SupC P K mg C) (S : ScopeS N ps (defScope st))
    (hN : N[0]? = some ("self" : Str)) (h0 : ps[0]? = some ("self" : Str)) (hb : defBody st = .Expr (.Call (.Attribute (.Call (.Name "super" p0) [] [] p1) "__init__" p2) [e] [] p3) p4 :: rest) (len : ∀ vs H Q E, sp vs H Q E → vs.length = ps.length)
    (he : ∀ env, starEach [e] env = (false, eval e env) :: starEach [] env)
    (hev : ∀ env, eval (.Call (.Attribute (.Call (.Name "super" p0) [] [] p1) "__init__" p2) [e] [] p3) env = (do
      let ov ← attributeBase (.Call (.Name "super" p0) [] [] p1) "__init__" env (eval (.Call (.Name "super" p0) [] [] p1) env)
      standAt p2.atName
      let (f, first) ← holding [ov] (getMethod ov "__init__" (pl env))
      callWith p3 f first (backTo p3 (starEach [e] env)) []))
    (hi : ∀ L cd, interactive (PySem.W.ksEnv qual (defScope st) L f cd cc) = false) (hs : ∀ L cd, swapsWith (.Call (.Attribute (.Call (.Name "super" p0) [] [] p1) "__init__" p2) [e] [] p3) none p4.line (PySem.W.ksEnv qual (defScope st) L f cd cc) = pure false)
    (hbody : ∀ (cdv : Value) (A : Around) (outer : List Env) (s : Shared) (H : Hp) (vs : List V) (Q : VK) (E : XK), Room k (A.deeper (PySem.W.ksEnv qual (defScope st) s.heap.objs.size f cdv cc)) → sp vs H Q E →
      ∃ (a : Addr) (ta : TA) (t : TS), vs[0]? = some (.ref a) ∧ H a = some (exo a C none) ∧ PA (cxS CX0 P w K mg base N qual (defScope st) f cdv cc A outer s H E) [e] ta ∧ PSs (cxS CX0 P w K mg base N qual (defScope st) f cdv cc A outer s H E) rest t ∧
        ta (L2.start N vs) H fun ws H1 => ws.length ≤ 1000 ∧ H1 a = some (exo a C none) ∧ t { nx := fun _ H' => Q .non H', rt := Q } (L2.start N vs) H1) :
    FnOk P w K mg base CX0 (k + 1) f fd ps sp := by
  obtain ⟨oc, od, kV, doc, pm, an, cda, ct, osl, rfl, lk, hcd, ccl, cdd, cvs, ccs, file, tf, lc, hvs, hfile⟩ := F.ex
  refine ⟨len, fun A outer s H args us vs Q E hr e0 hbd r hsp => ?_⟩
  have keepB : ∀ b o, base.get? b = some o → s.heap.get? b = some o := fun b o z => (e0.bs b o z).1
  have KX : K.In s.heap := e0.mod.kin.keeps keepB
  have lim : s.heap.NoLimit := e0.mod.nolimit.keeps keepB
  obtain ⟨cl, cld, csl, lcc⟩ := F.cell
  obtain ⟨ar, har, hself⟩ := F.self
  refine ks_codeAny_call_defAt (body := defBody st) (binds := ps.zip us) hr.depth (KX _ _ lk) rfl lim (PySem.W.codeRec_of KX hcd) rfl hbd S.nocell (fun y hy => S.par y.1 (by obtain ⟨y1, y2⟩ := y; exact (List.of_mem_zip hy).1)) (fun h₁ hns hk₁ => ?_) S.co S.gen S.kind
  obtain ⟨a, ta, t, hva, hHa, hA, hR, ht⟩ := hbody (.ref cda) A outer s H vs Q E (hr.deeper _) hsp
  have I : Inv (cxS CX0 P w K mg base N qual (defScope st) f (.ref cda) cc A outer s H E) [] (L2.start N vs) H { s with heap := h₁, toks := s.toks + (ps.zip us).length } :=
    invS_start S hr.hd e0 (len _ _ _ _ hsp) r ⟨_, _, e0.mod.kin _ _ lcc, rfl⟩ hns hk₁
  obtain ⟨u0, hu0, rv0⟩ := r.get hva
  obtain rfl : u0 = Value.ref a := rv0
  have ndP : ps.Nodup := by rw [← S.pre]; exact S.nd.sublist (List.take_sublist _ _)
  have hself' : (fun y => (ps.zip us).reverse.lookup y) "self" = some (Value.ref a) := rev_lookup ndP h0 hu0
  have fin : ∀ {s' : Shared} {σ' : L2.St} {H' : Hp} {v : V} {u : Value}, Inv (cxS CX0 P w K mg base N qual (defScope st) f (.ref cda) cc A outer s H E) [] σ' H' s' → L2.RelV v u → Q v H' → CE outer P w H s Q u s' :=
    fun {s' σ' H' v u} J rv q => ⟨v, H', J.os, J.bare, J.base, J.hok, rv, q⟩
  obtain ⟨nm, q0, N0, bs, bm, sn, sub, ab, col, dd, k0, k1, k2, k3, k5, hC, hbm⟩ := T.cls
  have hcl : PySem.W.clsIn K C = some { name := nm, bases := bs, mro := .ref C :: bm, ns := N0, qualname := q0, hasDict := true, slotNames := sn, subclasses := sub, abstract := ab, collection := col, hasDel := false } := by unfold PySem.W.clsIn; rw [hC] <;> rfl
  have hal : PySem.W.alongIn K "__init__" (((.ref C :: bm).dropWhile (· != .ref C)).drop 1) = some (some (.builtin "ValueError.__init__")) := by
    have z := T.up
    unfold PySem.W.ks_superIn at z
    rw [hcl] at z
    exact z
  show PySem.wpAt _ _ _ (execs (defBody st) _) _ _ _
  rw [hb]
  refine ks_wpAt_execs_cons (ks_wpAt_Expr_any (ks_wpAt_MethodCall ?_ (hev _)) (hi _ _) (hs _ _))
  obtain ⟨t1, ho1⟩ := exo_at I.hok hHa
  have kI : K.In h₁ := KX.keeps hk₁
  have hxC : a ≠ C := fun z => by
    have z1 := kI _ _ hC
    rw [← z, ho1] at z1
    cases z1
  obtain ⟨mb, hmb, hmb2⟩ := e0.mod.blt
  have kb : ∀ b o, base.get? b = some o → h₁.get? b = some o := fun b o z => hk₁ b o (keepB b o z)
  refine ks_wpAt_super_base (env := PySem.W.ksEnv qual (defScope st) s.heap.objs.size f (.ref cda) cc) S.sup S.cls rfl rfl (kI _ _ lk) rfl har rfl (kI _ _ lc) rfl hvs hfile T.top ?_
  refine PySem.W.ks_loadName_global S.kind S.sup (Calls.loadGlobal_builtin (env := PySem.W.ksEnv qual (defScope st) s.heap.objs.size f (.ref cda) cc) (e0.mod.glob.keeps kb) T.mS (hmb.keeps kb) ((hmb2 _ (by decide)).trans boot_super) ⟨rfl, ?_⟩)
  refine wpAny_loadName_free S.kind S.cls (c := cc) (v := .ref C) (by show List.lookup ("__class__" : Str) [(("__class__" : Str), cc)] = some cc; simp [List.lookup]) ⟨_, kI _ _ lcc, rfl⟩ ?_
  rw [hself]
  refine wpAny_loadName_local S.kind (S.par "self" (List.mem_of_getElem? h0)) hns hself' ?_
  refine ks_wpAny_isType_cls (kI _ _ hC) rfl ⟨rfl, ?_⟩
  refine ks_wpAny_call_super (kI _ _ hC) rfl ho1 rfl (fun c z => by cases z) (PySem.W.looks_mroIn kI T.own) (fun h2 e2 k2' => ?_)
  have I2 : Inv (cxS CX0 P w K mg base N qual (defScope st) f (.ref cda) cc A outer s H E) [] (L2.start N vs) H ⟨h2, s.gens, s.drawn, s.toks + (ps.zip us).length, s.os⟩ := I.kept (h' := h2) (t' := s.toks + (ps.zip us).length) k2'
  have kI2 : K.In h2 := kI.keeps k2'
  have IA : PySem.W.InstAt h2 a ({ cls := .ref C, dict := none, data := .fields #[.ref t1, .none, .none, .none, .bool false, .none] } : Obj) C none := ⟨k2' _ _ ho1, rfl, rfl, trivial⟩
  refine PySem.W.kxs_getMethod PySem.W.kxs_ValueError e2 (PySem.W.looks_opaque kI2 T.any) (l₀ := .ref C :: bm) ((PySem.W.looks_clsIn kI2 hcl).andThen .now) rfl kI2 hal (IA.type.andThen (PySem.W.looks_subIn kI2 T.ve)) hxC (by decide) ?_
  have I3 : Inv (cxS CX0 P w K mg base N qual (defScope st) f (.ref cda) cc A outer s H E) [] (L2.start N vs) H ⟨h2.push (PySem.W.kxs_mw "ValueError.__init__" a), s.gens, s.drawn, s.toks + (ps.zip us).length + 1, s.os⟩ := I2.kept (h' := h2.push (PySem.W.kxs_mw "ValueError.__init__" a)) (t' := s.toks + (ps.zip us).length + 1) (fun b o z => Heap.get?_push_of_some _ z)
  have hmw : (h2.push (PySem.W.kxs_mw "ValueError.__init__" a)).get? h2.objs.size = some (PySem.W.kxs_mw "ValueError.__init__" a) := Heap.get?_push_size _ rfl
  have I4 : Inv (cxS CX0 P w K mg base N qual (defScope st) f (.ref cda) cc A outer s H E) [(h2.objs.size, PySem.W.kxs_mw "ValueError.__init__" a)] (L2.start N vs) H ⟨h2.push (PySem.W.kxs_mw "ValueError.__init__" a), s.gens, s.drawn, s.toks + (ps.zip us).length + 1, s.os⟩ := by
    refine I3.pins_of fun p hp => ?_
    obtain rfl := List.mem_singleton.mp hp
    refine ⟨hmw, I2.hok.fresh (Nat.le_refl _), fun z => ?_, I2.nofs (Nat.le_refl _), fun v z => nomatch z⟩
    have z1 := I2.lt
    have z' : h2.objs.size = (cxS CX0 P w K mg base N qual (defScope st) f (.ref cda) cc A outer s H E).env.locals := z
    rw [← z'] at z1
    exact absurd z1 (Nat.lt_irrefl _)
  show wpAny _ _ (callWith p3 (.ref h2.objs.size) [] (backTo p3 (starEach [e] _)) []) _ _ _
  rw [he]
  refine PySem.W.kxs_callWith (i := "ValueError.__init__") (x := a) (by rfl) (Calls.evalArgs_plain ?_)
  have hrun := hA.run p3 _ _ _ _ (fun ws H1 => ws.length ≤ 1000 ∧ H1 a = some (exo a C none) ∧ t { nx := fun _ H' => Q .non H', rt := Q } (L2.start N vs) H1) I4 ht
  rw [he] at hrun
  refine thn hrun fun us1 s1 ⟨ws, H1, I5, r1, hl, ea, q⟩ => ?_
  obtain ⟨g1, _⟩ := I5.pin _ (List.mem_append_right _ List.mem_cons_self)
  refine ⟨g1, ?_⟩
  show wpAny _ _ (call (.ref h2.objs.size) us1) _ _ _
  have I6 := I5.pins_of (pins' := []) fun p hp => absurd hp (by simp)
  refine call_mw (X := cxS CX0 P w K mg base N qual (defScope st) f (.ref cda) cc A outer s H E) T.toOexC I6 g1 ea (by rw [← r1.length, sizeLine_eq]; omega) fun s2 J => ?_
  show PySem.wpAt _ _ _ (execs rest _) _ _ _
  refine wpAt_of_wpAny (wpAny_mono (hR.run [] s2 _ H1 _ J q) (fun fl s' hs => ?_) fun e s' hs => hs)
  cases fl with
  | ret u =>
    obtain ⟨v, σ', H', J', rv, q'⟩ := hs
    exact fin J' rv q'
  | next =>
    obtain ⟨σ', H', J', q'⟩ := hs
    exact fin (v := V.non) (u := Value.none) J' rfl q'
  | brk =>
    obtain ⟨_, _, _, q'⟩ := hs
    exact False.elim q'
  | cont =>
    obtain ⟨_, _, _, q'⟩ := hs
    exact False.elim q'
end
end OH
end
section
set_option Elab.async false
set_option linter.all false
set_option maxRecDepth 100000
set_option maxHeartbeats 4000000
/-! An error that a handler keeps, with the dict of its fields. -/
namespace OH
namespace JX
open PySem PySem.W PySem.Spec PySem.Calls PyProof.Rows
section
variable {prog : Program} {w : World} {A : Around} {E : Value → Shared → Prop} {s : Shared} {K : Frag} {x D : Addr} {ox : Obj} {od : Option Obj} {Q : Option Value → Shared → Prop}
/-- what is handed out as the class of an error, whatever its own dict tells -/
theorem class_seen (C : L2.ExcC K D) (kin : K.In s.heap) (at_ : InstAt s.heap x ox D od) (done : Q (some (.ref D)) { s with toks := s.toks + 1 }) : wpAny (model prog w) A (getAttr? (.ref x) "__class__") Q E s := by
  obtain ⟨cd, hcd, _⟩ := any_some C.hd
  have found : findObj K D od "__class__" = some (.bind (.builtin "getset_descriptor.__get__") (.builtin "object.__class__")) := by
    simp [findObj, hcd, C.ha, C.hn, C.ht]
  obtain ⟨hp, g, d, t, os⟩ := s
  have ty := at_.type (M := model prog w)
  have isB : Looks (model prog w) hp (isInstance (.ref x) (.type "BaseException")) true := ty.andThen (looks_subIn kin C.hs)
  have way := looks_findIn (M := model prog w) kin C.hg
  have hook := looks_findIn (M := model prog w) kin C.hk
  have item := looks_find (M := model prog w) kin at_ found
  have ga := PySem.F.excAttr_ValueError.ga
  have inner : ∀ (A : Around) (Q : Value → Shared → Prop) (E : Value → Shared → Prop) (k : Nat), Q (.ref D) ⟨hp, g, d, k, os⟩ → wpAny (model prog w) A (call (.builtin "BaseException.__getattribute__") [.ref x, .str "__class__" t]) Q E ⟨hp, g, d, k, os⟩ := by
    intro A Q E k q
    refine wpAny_call (codeAny_call_builtin ga.plain PySem.F.entry_bexc_ga ?_)
    have kd : builtinKind "BaseException.__getattribute__" = some .slot := by decide +kernel
    have sp : splitId "BaseException.__getattribute__" = some ("BaseException", "__getattribute__") := by decide +kernel
    refine check_slot (i := "BaseException.__getattribute__") (owner := "BaseException") (n := "__getattribute__") (self := .ref x) (rest := [.str "__class__" t]) (kw := []) kd sp isB (PySem.F.args_bexc_ga (.ref x) (.str "__class__" t)) ?_
    unfold Builtin.«object.__getattribute__»
    refine wpAny_bind (wpAny_of_eq (a := ((Value.ref x : Value), [Value.str "__class__" t])) (by first | rfl | (simp only [slotArgs]; rfl)) (wpAny_bind (wpAny_pure ?_)))
    refine wpAny_bind (ty.at (wpAny_bind (item.at (wpAny_bind (wpAny_holding (wpAny_call (class_get (s := ⟨hp, g, d, k, os⟩) kin at_ C.hm ?_)))))))
    exact wpAny_pure q
  have notObj : (onTheHeap (Value.ref D) && Value.builtin "BaseException.__getattribute__" == Value.builtin "object.__getattribute__") = false := by
    have z : (Value.builtin "BaseException.__getattribute__" == Value.builtin "object.__getattribute__") = false := by decide +kernel
    rw [z]
    rfl
  unfold getAttr? getAttrBy? getAttrBy
  refine wpAny_bind (wpAny_mkText (wpAny_bind (wpAny_attempt (wpAny_holding (wpAny_bind (ty.at (wpAny_bind (way.at ?_))))))))
  dsimp only
  rw [if_neg (by rw [notObj]; exact Bool.false_ne_true)]
  unfold getAttrByItsOwn hookBefore callGetattribute boundAndCalled
  rw [if_pos (show onTheHeap (Value.ref D) = true from rfl)]
  refine wpAny_bind (hook.at (wpAny_bind (wpAny_attempt (wpAny_holding ?_))))
  rw [ga.bind (.ref x)]
  refine wpAny_bind (wpAny_pure (inner _ _ _ _ ?_))
  dsimp only
  rw [handedOut_of (v := .ref D) rfl]
  exact wpAny_pure (wpAny_pure done)
theorem kitx_j (C : L2.ExcC K D) : KitX K (.ref x) (.ref D) (fun h => InstAt h x ox D od) := by
  obtain ⟨cd, hcd, _⟩ := any_some C.hd
  obtain ⟨o, lo, ho⟩ : ∃ o, K.lookup D = some o ∧ o.data = .cls cd := by
    unfold clsIn at hcd
    split at hcd
    · rename_i c' d' cd' sl' ho
      cases hcd
      exact ⟨_, ho, rfl⟩
    · cases hcd
  refine ⟨fun _ _ _ I => I.type, fun _ _ kin _ => ?_, fun h tp dd its n sl kin htp => ?_, fun kin I k => class_seen C kin I k⟩
  · intro A' Q' E' s' k q
    unfold isType loadHead
    refine wpAny_bind (wpAny_loadPart (k _ _ (kin _ _ lo)) ?_)
    rw [ho]
    exact wpAny_pure q
  · cases hq : (Value.ref D == Value.ref tp) with
    | false => rfl
    | true =>
      obtain rfl : D = tp := Value.ref.inj (beq_iff_eq.mp hq)
      have z := (kin _ _ lo).symm.trans htp
      cases z
      cases ho
end
end JX
end OH
namespace OH
open PySem PySem.Spec PyProof.Rows L2
/-- an exception object of the class cls, its own dict at d, that some name holds -/
def ExJ (cls : Value) (d : Option Addr) (a : Addr) : HO := .ext fun h => ∃ (oe : Obj) (vs : Array Value), h.get? a = some oe ∧ Zc cls d oe ∧ oe.data = .fields vs
theorem kitx_any {K : PySem.W.Frag} {x D : Addr} {ox : Obj} {od : Option Obj} (C : ExcC K D) : PySem.W.KitX K (.ref x) (.ref D) (fun h => PySem.W.InstAt h x ox D od) :=
  JX.kitx_j C
section
variable {X : Cx} {pins : List (Addr × Obj)} {σ : L2.St} {H : Hp} {s : Shared}
/-- what a handler that keeps its error wishes of an error of the body -/
def wKeepJ (K : PySem.W.Frag) (c : Value) (i : Nat) (ts : Addr → Value → TS) (D : Ends) : WX := fun cls d σ H =>
  PySem.W.exmOne K cls c = some true ∧ ∀ a, H a = none →
    ts a cls { nx := fun σ' H' => D.nx (σ'.set i none) (upd H' a (ExJ cls d a)), rt := fun _ _ => False, bk := fun _ _ => False, ct := fun _ _ => False } (σ.set i (some (.ref a))) H
variable {x n : Str} {c : Value} {i : Nat} {body suite : List Stmt} {b₀ : Stmt} {np pos pos' : Pos} {tb : WX → TS} {ts : Addr → Value → TS}
/-- try: body / except x as n: suite, behind which the error is held -/
theorem ps_try_keepJ (hs : X.stack = X.env :: X.outer) (hf : X.env.frame = some X.env.locals) (hex : X.ex = []) (hN : X.N.Nodup) (hi : X.N[i]? = some n)
    (hln : X.env.kindOf n = some .local) (hc : Names X x c)
    (hb : ∀ (W : WX) (pn : List (Addr × Obj)) (xe : Value → Shared → Prop), Takes (X.tr pn xe) W → PassesOwn (model X.prog X.w) X.A X.env xe → PSs (X.tr pn xe) body (tb W))
    (hsu : ∀ (a : Addr) (oe : Obj) (cls : Value) (d : Option Addr) (pn : List (Addr × Obj)), Zc cls d oe → (∃ vs, oe.data = .fields vs) → PSs (X.suite a ((a, oe) :: pn)) (b₀ :: suite) (ts a cls)) :
    PS X (.Try body [.ExceptHandler (some (.Name x np)) (some n) (b₀ :: suite) pos'] [] [] pos) (fun D σ H => tb (wKeepJ X.K c i ts D) D σ H) := by
  constructor
  intro pins s σ H D I h
  have ok := I.ok
  have frm : X.A.frames = some (X.env :: X.outer) := ok.frames.trans (by rw [hs])
  apply wpAny_Try_except
  refine wpAny_mono ((hb (wKeepJ X.K c i ts D) (X.pn ++ pins)
    (fun e s₁ => wpAny (model X.prog X.w) X.A (noteFrame e X.env)
      (fun _ s₂ => wpAny (model X.prog X.w) X.A (setFlight e none)
        (fun _ s₃ => wpAny (model X.prog X.w) X.A (handleBy e X.env [.ExceptHandler (some (.Name x np)) (some n) (b₀ :: suite) pos']) (SP X pins D) X.xe s₃) X.xe s₂) X.xe s₁)
    ?took PassesOwn.looking).run [] s σ H D (I.toTry _) h) ?went (fun _ _ he => he)
  case went =>
    rintro (_ | _ | _ | u) s1 hsp
    · obtain ⟨σ', H', J, q⟩ := hsp
      exact wpAny_execs_nil ⟨σ', H', J.ofTry ok, q⟩
    · obtain ⟨σ', H', J, q⟩ := hsp
      exact ⟨σ', H', J.ofTry ok, q⟩
    · obtain ⟨σ', H', J, q⟩ := hsp
      exact ⟨σ', H', J.ofTry ok, q⟩
    · obtain ⟨v, σ', H', J, r, q⟩ := hsp
      exact ⟨v, σ', H', J.ofTry ok, r, q⟩
  case took =>
    rintro u s' ⟨a, B, sI, pins', σ', H', cls, d, rfl, J', nb, up, sky, na, os, ag, hm1, hyes⟩
    have J : Inv X pins σ' H' sI := J'.ofTry ok
    rw [show (X.tr (X.pn ++ pins) _).stack = X.env :: X.outer from hs] at sky
    show wpAny (model X.prog X.w) X.A (noteFrame (.ref a) X.env) _ _ _
    refine Sky.land Zc.steady frm hf sky fun h3 fl3 up3 => ?_
    obtain ⟨oe3, vs3, he3, hz3, hd3⟩ := fl3.there
    have Ba : B.get? a = none := fl3.2.1
    have aNf : a ∉ frs (X.env :: X.outer) := fun hm => by
      obtain ⟨_, o', e', hnf⟩ := fl3.2.2.1.mem hm
      rw [he3] at e'
      cases e'
      exact hnf _ hd3
    have aNs : a ∉ frs X.stack := by
      rw [hs]
      exact aNf
    have nL : a ≠ X.env.locals := fun z => aNf (List.mem_filterMap.mpr ⟨X.env, List.mem_cons_self, hf.trans (congrArg some z.symm)⟩)
    have nF : a ∉ X.fs := fun hm => by
      obtain ⟨en, he, q⟩ := List.mem_filterMap.mp hm
      exact aNf (List.mem_filterMap.mpr ⟨en, List.mem_cons_of_mem _ he, q⟩)
    have gI : sI.heap.get? a = none := by
      cases e : sI.heap.get? a with
      | none => rfl
      | some o => exact absurd ((nb a o e aNs).symm.trans Ba) (fun z => nomatch z)
    have g0 : X.s_0.heap.get? a = none := by
      cases e : X.s_0.heap.get? a with
      | none => rfl
      | some o =>
        obtain ⟨o', q⟩ := J.base.there a o e (by rw [hex]; exact List.not_mem_nil)
        rw [gI] at q
        cases q
    have pNa : ∀ p ∈ X.pn ++ pins, p.1 ≠ a := fun p hp z => by
      have q := (J.pin p hp).1
      rw [z, gI] at q
      cases q
    have J3 : Inv X pins σ' H' { s' with heap := h3 } := J.landed nb fl3.1 (up.trans up3) os ag
    have S3 := J3.suite he3 hd3 na nL nF
    refine wpAny_handleBy_cons (codeAny_handlers_test ?_) (by intro q; cases q)
    have tyA : PySem.W.Looks (model X.prog X.w) h3 (typeOf (.ref a)) cls := fun A Q E s k q => wpAny_typeOf_ref (k _ _ he3) (by rw [hz3.1]; exact q)
    have fit := PySem.W.exm_one (M := model X.prog X.w) J3.kIn tyA hm1
    have named : ∀ {Q : Value → Shared → Prop} {E : Value → Shared → Prop}, Q c { s' with heap := h3 } →
        wpAny (model X.prog X.w) (X.A.mark (some (.ref a))) (eval (.Name x np) X.env) Q E { s' with heap := h3 } := fun {Q E} q => by
      obtain ⟨hg, hdbg, hm | ⟨hm, hv, hnn⟩⟩ := hc
      · exact ld_glob (X := X.suite a ((a, oe3) :: (X.pn ++ pins))) S3 hg hm q hdbg
      · exact ld_blt (X := X.suite a ((a, oe3) :: (X.pn ++ pins))) S3 hg hm hv q hnn hdbg
    refine named (fit.here ?_)
    refine codeAny_handlers_suite_as ?_
    refine HandSPX.lands_againZ fl3 fun h4 fl4 up4 => ?_
    obtain ⟨oe4, vs4, he4, hz4, hd4⟩ := fl4.there
    have J4 : Inv X pins σ' H' { s' with heap := h4 } := J.landed nb fl4.1 ((up.trans up3).trans up4) os ag
    have S4 := J4.suite he4 hd4 na nL nF
    refine store_ok (X := X.suite a ((a, oe4) :: (X.pn ++ pins))) (v := .ref a) S4 hN hi (Or.inl hln) rfl (fun s5 S5 => ?_) (.inr hln)
    refine wpAny_mono ((hsu a oe4 cls d (X.pn ++ pins) hz4 ⟨_, hd4⟩).run [] s5 _ H' _ S5 (hyes a na)) ?_ (fun _ _ z => False.elim z)
    rintro (_ | _ | _ | u) s6 hsp
    · obtain ⟨σ6, H6, S6, q6⟩ := hsp
      obtain ⟨g6, n6, _⟩ := S6.pin (a, oe4) (List.mem_append_left _ List.mem_cons_self)
      have T6 := track (o := ExJ cls d a) (S6.unsuite ok) g6 n6 g0 nL (fun v z => nomatch (hd4.symm.trans z)) pNa
        ⟨⟨oe4, vs4, g6, hz4, hd4⟩, ⟨oe4, g6⟩, fun _ _ ⟨o, v, q, r⟩ k => ⟨o, v, k o q, r⟩⟩
      exact gone_ok T6 hN hi hln fun s7 J7 => ⟨_, _, J7, q6⟩
    all_goals
      first
        | (obtain ⟨_, _, _, q6⟩ := hsp; exact False.elim q6)
        | (obtain ⟨_, _, _, _, _, q6⟩ := hsp; exact False.elim q6)
/-- told: found = None / try: a() / except x as e: found = e / return found -/
def TTj (K : PySem.W.Frag) (CS : Addr) : (XK → Hp → VK → Prop) → Hp → VK → Prop := fun tl H Q => ∀ Q' : VK, (∀ v H1, Q .non H1 → Q' v H1) →
  tl (fun cls d H' => PySem.W.exmOne K cls (.ref CS) = some true ∧ ∀ a, H' a = none → Q (.ref a) (upd H' a (ExJ cls d a))) H Q'
/-- what is at a: an error of the class D that is held, its dict with what fs tells (none: it has none) -/
def Held (H : Hp) (a D : Addr) (fs : Option (List (Str × V))) : Prop := match fs with
  | none => H a = some (ExJ (.ref D) none a)
  | some l => ∃ d, H a = some (ExJ (.ref D) (some d) a) ∧ H d = some (.xd l)
theorem held_inst {a D : Addr} {fs : Option (List (Str × V))} (I : Inv X pins σ H s) (h : Held H a D fs) : ∃ (oe : Obj) (od : Option Obj), PySem.W.InstAt s.heap a oe D od ∧
    ∀ l, fs = some l → ∃ (o : Obj) (mA : Str → Option Value), od = some o ∧ (∀ f, RelO (l.lookup f) (mA f)) ∧ ∀ name, PySem.W.lookIn name o = some (mA name) := by
  cases fs with
  | none =>
    obtain ⟨⟨oe, vs, g, hz, hd⟩, _, _⟩ := I.hok a _ h
    obtain ⟨oc, od, oda, osl⟩ := oe
    obtain ⟨z1, z2⟩ := hz
    dsimp only at z1 z2 hd
    subst z1 z2 hd
    exact ⟨_, none, ⟨g, rfl, rfl, trivial⟩, fun l z => nomatch z⟩
  | some l =>
    obtain ⟨d, ha, hd'⟩ := h
    obtain ⟨⟨oe, vs, g, hz, hd⟩, _, _⟩ := I.hok a _ ha
    have hx : ObjOk X.prog X.w H s.heap d (.xd l) := I.hok d _ hd'
    obtain ⟨mA, hns, hr⟩ := hx
    obtain ⟨od1, ho, hl⟩ := lookIn_ns hns
    obtain ⟨oc, od, oda, osl⟩ := oe
    obtain ⟨z1, z2⟩ := hz
    dsimp only at z1 z2 hd
    subst z1 z2 hd
    refine ⟨_, some od1, ⟨g, rfl, rfl, ho⟩, fun l' z => ?_⟩
    cases z
    exact ⟨od1, mA, rfl, hr, hl⟩
/-- isinstance(e, c), e an error that is held -/
theorem call_isJ {D : Addr} {fs : Option (List (Str × V))} (C : ExcC X.K D) : CallR X (.builtin "isinstance") (fun xs H Q => ∃ (a : Addr) (c : V) (cv : Value) (b : Bool),
    xs = [.ref a, c] ∧ Held H a D fs ∧ (∀ u, RelV c u → u = cv) ∧ PySem.W.kitOne X.K (.ref D) cv = some b ∧ Q (.bl b) H) := by
  rintro pins s σ H xs us Q I r ⟨a, c, cv, b, rfl, hA, hcv, e, q⟩
  obtain ⟨oe, od, J, _⟩ := held_inst I hA
  rcases r with _ | ⟨rx, rr⟩
  rcases rr with _ | ⟨rt, rr⟩
  cases rr
  obtain rfl : _ = Value.ref a := rx
  obtain rfl := hcv _ rt
  exact PySem.W.kia_one (kitx_any (od := od) C) I.kIn J e (fun z => nomatch z)
    fun tk => ⟨.bl b, H, I.kept (t' := tk) fun _ _ z => z, rfl, q⟩
/-- what a class of errors must say, so that a field f of its objects is read rightly -/
structure ExcF (K : PySem.W.Frag) (D : Addr) (f : Str) : Prop where
  ga : PySem.W.findIn K (.ref D) "__getattribute__" = some (some (.builtin "BaseException.__getattribute__"))
  gg : PySem.W.findIn K (.ref D) "__getattr__" = some none
  ex : PySem.W.subIn K (.ref D) (.type "BaseException") = some true
  hd : PySem.W.hasDictIn K D = true
  no : PySem.W.findIn K (.ref D) f = some none
/-- e.f, e an error that is held -/
def tHeld (D : Addr) (f : Str) (te : TE) : TE := fun σ H Q => te σ H fun x H1 => ∃ (a : Addr) (l : List (Str × V)) (v : V), x = .ref a ∧ Held H1 a D (some l) ∧ l.lookup f = some v ∧ Q v H1
theorem pe_heldf {D : Addr} {e : Expr} {f : Str} {te : TE} {pos : Pos} (T : ExcF X.K D f) (he : PE X e te) (hb : attributeBase e f X.env (eval e X.env) = eval e X.env := by rfl) : PE X (.Attribute e f pos) (tHeld D f te) := by
  refine ⟨fun pins s σ H Q I h => ?_⟩
  refine attr_of hb (thn (he.run pins s σ H _ I h) fun u s1 hh => ?_)
  obtain ⟨x, H1, I1, rx, a, l, v, ex, hA, hv, q⟩ := hh
  subst ex
  obtain rfl : u = Value.ref a := rx
  obtain ⟨oe, od, J, hJ⟩ := held_inst I1 hA
  obtain ⟨o, mA, rfl, hr, hl⟩ := hJ l rfl
  obtain ⟨u, hu, ru⟩ := RelO.some_of (v := v) (o := mA f) (by rw [← hv]; exact hr f)
  exact PySem.HandSPX.exc_get I1.kIn J T.ga T.gg T.ex (PySem.W.findObj_own T.hd T.no rfl (by rw [hl, hu])) (handed_of ru) ⟨v, H1, I1.tok _, ru, q⟩
/-- {x}: a text, an int, a bool or None, as a text -/
inductive FmtAs : V → Str → Prop where
  | str (y : Str) (h : y.length ≤ sizeLine) : FmtAs (.str y) y
  | int (i : Int) (h : i.natAbs.log2 < 1920) : FmtAs (.int i) (toString i)
  | non : FmtAs .non "None"
  | bl (b : Bool) : FmtAs (.bl b) (if b then "True" else "False")
def tFmtA (te : TE) : TE := fun σ H Q => te σ H fun x H1 => ∃ y : Str, FmtAs x y ∧ Q (.str y) H1
theorem pe_fmtA {e : Expr} {te : TE} {pos : Pos} (he : PE X e te) : PE X (.FormattedValue e (-1) none pos) (tFmtA te) := by
  refine ⟨fun pins s σ H Q I h => ?_⟩
  refine wpAny_FormattedValue_plain (thn (he.run pins s σ H _ I h) fun v s1 hv => ?_)
  obtain ⟨x, H1, I1, r1, y, f, q⟩ := hv
  cases f with
  | str y hz =>
    obtain ⟨t, rfl⟩ := r1
    exact wpAny_formatField_str ⟨.str y, H1, I1, ⟨t, rfl⟩, q⟩ ⟨.str y, H1, I1.tok _, ⟨_, rfl⟩, q⟩ hz
  | int i hz =>
    obtain ⟨t, rfl⟩ := r1
    exact wpAny_formatField_int hz ⟨.str (toString i), H1, I1.tok _, ⟨_, rfl⟩, q⟩
  | non =>
    cases r1
    exact wpAny_formatField_none ⟨.str "None", H1, I1.tok _, ⟨_, rfl⟩, q⟩
  | bl b =>
    cases r1
    exact wpAny_formatField_bool ⟨.str (if b then "True" else "False"), H1, I1.tok _, ⟨_, rfl⟩, q⟩
end
end OH
namespace OH
open PySem PySem.Spec PyProof.Rows L2
/-! Making such an error. -/
def FmtV (v : V) : Prop := ∃ y, FmtAs v y ∧ y.length ≤ 100000
structure ErrF (P : Program) (K : PySem.W.Frag) (mg : Str → Option Value) (x f : Str) (C : Addr) : Prop where
  g : mg x = some (.ref C)
  s : SupC P K mg C
  i : ExcC K C
  no : PySem.W.findIn K (.ref C) f = some none
theorem ErrF.f {P : Program} {K : PySem.W.Frag} {mg : Str → Option Value} {x f : Str} {C : Addr} (T : ErrF P K mg x f C) : ExcF K C f := ⟨T.i.hg, T.i.hk, T.i.hs, T.i.hd, T.no⟩
/-- what __init__(self, v) with one field f does -/
def spErr1 (C : Addr) (f : Str) : Sp := fun vs H Q _ => ∃ (a : Addr) (v : V), vs = [.ref a, v] ∧ FmtV v ∧ H a = some (exo a C none) ∧
  ∀ dx, H dx = none → dx ≠ a → Q .non (upd (upd H dx (exd dx [(f, v)])) a (exo a C (some dx)))
section
variable {X : Cx} {C fI : Addr} {x f : Str} {e : Expr} {ta : TA} {p pos : Pos} {fd : FuncData}
/-- a reading whose end may be weakened -/
def tUp (ta : TA) : TA := fun σ H Q => ∃ R, ta σ H R ∧ ∀ vs H1, R vs H1 → Q vs H1
theorem pa_up {es : List Expr} (ha : PA X es ta) : PA X es (tUp ta) := ⟨fun pos pins s σ H Q I ⟨R, h, k⟩ => thn (ha.run pos pins s σ H R I h) fun us s1 ⟨vs, H1, I1, r, q⟩ => ⟨vs, H1, I1, r, k vs H1 q⟩⟩
def tMk1 (C : Addr) (f : Str) (ta : TA) : L2.St → Hp → XK → Prop := fun σ H Q => ta σ H fun vs H1 => ∃ v, vs = [v] ∧ FmtV v ∧ ∀ d, H1 d = none → Q (.ref C) (some d) (upd H1 d (.xd [(f, v)]))
theorem pmk_err1 (T : ErrF X.prog X.K X.mg x f C) (iC : PySem.W.findIn X.K (.ref C) "__init__" = some (some (.ref fI))) (tI : PySem.W.typeIn X.K (.ref fI) = some (.type "function"))
    (F1 : FnOk X.prog X.w X.K X.mg X.base CX0 1 fI fd ["self", f] (spErr1 C f)) (hr : Room 2 X.A) (hb : Binds X.K fd ["self", f] []) (hg : Gl X x) (ha : PA X [e] ta)
    (hdb : (x == ("__debug__" : Str)) = false := by decide) (he : starEach [e] X.env = (false, eval e X.env) :: starEach [] X.env := by rfl) (hpl : (backTo pos (starEach [] X.env)).any (·.1) = false := by rfl) :
    PMk X (.Call (.Name x p) [e] [] pos) (tMk1 C f ta) := by
  intro pins s σ H Q I h
  refine pmk_oex (pos := pos) T.s.toOexC iC tI F1 hr hb .nil pass0 hg T.g (pa_up ha) hdb he hpl pins s σ H Q I ⟨_, h, fun vs H1 hv => ?_⟩
  obtain ⟨v, rfl, fm, q⟩ := hv
  refine ⟨by show 1 ≤ 1000; omega, fun a na => ⟨a, v, rfl, fm, upd_same, fun dx n1 n2 => ⟨rfl, dx, [(f, v)], upd_same, (upd_ne n2).trans upd_same, ?_, ?_⟩⟩⟩
  · rw [upd_ne n2] at n1
    exact n1
  · have n0 : H1 dx = none := by
      rw [upd_ne n2] at n1
      exact n1
    have eh : upd (L2.del (upd (upd (upd H1 a (exo a C none)) dx (exd dx [(f, v)])) a (exo a C (some dx))) a) dx (.xd [(f, v)]) = upd H1 dx (.xd [(f, v)]) := by
      funext b
      by_cases h1 : b = dx
      · rw [h1, upd_same, upd_same]
      · rw [upd_ne h1, upd_ne h1]
        by_cases h2 : b = a
        · rw [h2, L2.del_same, na]
        · rw [L2.del_ne h2, upd_ne h2, upd_ne h1, upd_ne h2]
    have eh' : _ = _ := eh
    rw [eh']
    exact q dx n0
end
end OH
end
section
set_option Elab.async false
set_option linter.all false
set_option maxRecDepth 100000
set_option maxHeartbeats 4000000
/-! Any data, as it stands in the heap. -/
namespace OH
open PySem PySem.Spec PyProof.Rows L2
mutual
/-- the value v is this data; lists stand only where Z lets them -/
inductive DA (Z : Addr → Prop) (H : Hp) : V → PyData → Prop
  | non : DA Z H .non .none
  | bl (b : Bool) : DA Z H (.bl b) (.bool b)
  | int (i : Int) : DA Z H (.int i) (.int i)
  | str (x : Str) (h : x.length ≤ 1000) : DA Z H (.str x) (.str x)
  | lst {a : Addr} {xs : List V} {ds : List PyData} : H a = some (.lst xs) → Z a → DAs Z H xs ds → DA Z H (.ref a) (.list ds)
  | tup {a : Addr} {xs : List V} {ds : List PyData} : H a = some (.tup xs) → DAs Z H xs ds → DA Z H (.ref a) (.tuple ds)
inductive DAs (Z : Addr → Prop) (H : Hp) : List V → List PyData → Prop
  | nil : DAs Z H [] []
  | cons {v : V} {vs : List V} {d : PyData} {ds : List PyData} : DA Z H v d → DAs Z H vs ds → DAs Z H (v :: vs) (d :: ds)
end
section
variable {Z : Addr → Prop} {H H' : Hp}
mutual
theorem DA.ext {v : V} {d : PyData} (e1 : ∀ q xs, H q = some (.tup xs) → H' q = some (.tup xs)) (e2 : ∀ q xs, Z q → H q = some (.lst xs) → H' q = some (.lst xs)) : DA Z H v d → DA Z H' v d
  | .non => .non
  | .bl b => .bl b
  | .int i => .int i
  | .str x h => .str x h
  | .lst h z hs => .lst (e2 _ _ z h) z (DAs.ext e1 e2 hs)
  | .tup h hs => .tup (e1 _ _ h) (DAs.ext e1 e2 hs)
theorem DAs.ext {vs : List V} {ds : List PyData} (e1 : ∀ q xs, H q = some (.tup xs) → H' q = some (.tup xs)) (e2 : ∀ q xs, Z q → H q = some (.lst xs) → H' q = some (.lst xs)) : DAs Z H vs ds → DAs Z H' vs ds
  | .nil => .nil
  | .cons h hs => .cons (DA.ext e1 e2 h) (DAs.ext e1 e2 hs)
end
mutual
theorem DA.dp {K : PySem.W.Frag} {v : V} {d : PyData} : DA Z H v d → Dp K H v d
  | .non => .non
  | .bl b => .bl b
  | .int i => .int i
  | .str x _ => .str x
  | .lst h z hs => .lst (SqL.of h) (DAs.dp hs)
  | .tup h hs => .tup (SqT.of h) (DAs.dp hs)
theorem DAs.dp {K : PySem.W.Frag} {vs : List V} {ds : List PyData} : DAs Z H vs ds → DpAll K H vs ds
  | .nil => .nil
  | .cons h hs => .cons (DA.dp h) (DAs.dp hs)
end
theorem DA.same {v : V} {d : PyData} (h : DA Z H v d) (s : Same H H') : DA Z H' v d := h.ext (fun q _ e => s q _ e) (fun q _ _ e => s q _ e)
theorem DAs.same {v : List V} {d : List PyData} (h : DAs Z H v d) (s : Same H H') : DAs Z H' v d := h.ext (fun q _ e => s q _ e) (fun q _ _ e => s q _ e)
theorem DA.extN {v : V} {d : PyData} (h : DA Z H v d) (s : LamX.ExtN H H') : DA Z H' v d := h.ext (fun q _ e => s q _ e (fun _ z => nomatch z)) (fun q _ _ e => s q _ e (fun _ z => nomatch z))
theorem DA.plv {v : V} {d : PyData} (h : DA Z H v d) : PlV H v := by
  cases h with
  | lst h z hs => exact .inr ⟨_, h⟩
  | tup h hs => exact .inl ⟨_, h⟩
  | _ => trivial
theorem DAs.len {vs : List V} {ds : List PyData} : DAs Z H vs ds → vs.length = ds.length
  | .nil => rfl
  | .cons h hs => by rw [List.length_cons, List.length_cons, DAs.len hs]
theorem DAs.get {vs : List V} {ds : List PyData} (h : DAs Z H vs ds) : ∀ {i : Nat} {v : V}, vs[i]? = some v → ∃ d, ds[i]? = some d ∧ DA Z H v d := by
  induction vs generalizing ds with
  | nil => intro i v e; cases i <;> cases e
  | cons x xs ih =>
    intro i v e
    cases h with
    | cons h hs =>
      cases i with
      | zero => cases e; exact ⟨_, rfl, h⟩
      | succ i => exact ih hs e
theorem DAs.app : ∀ {vs ws : List V} {ds es : List PyData}, DAs Z H vs ds → DAs Z H ws es → DAs Z H (vs ++ ws) (ds ++ es)
  | _, _, _, _, .nil, h2 => h2
  | _, _, _, _, .cons h hs, h2 => .cons h (DAs.app hs h2)
theorem DAs.take : ∀ {vs : List V} {ds : List PyData} (n : Nat), DAs Z H vs ds → DAs Z H (vs.take n) (ds.take n)
  | _, _, 0, _ => by rw [List.take_zero, List.take_zero]; exact .nil
  | _, _, n + 1, .nil => by exact .nil
  | _, _, n + 1, .cons h hs => .cons h (DAs.take n hs)
theorem DAs.drop : ∀ {vs : List V} {ds : List PyData} (n : Nat), DAs Z H vs ds → DAs Z H (vs.drop n) (ds.drop n)
  | _, _, 0, h => h
  | _, _, n + 1, .nil => by exact .nil
  | _, _, n + 1, .cons h hs => DAs.drop n hs
theorem DAs.plv {vs : List V} {ds : List PyData} (h : DAs Z H vs ds) : ∀ x ∈ vs, PlV H x := fun x hx => by
  obtain ⟨i, hi⟩ := List.getElem?_of_mem hx
  obtain ⟨d, _, h⟩ := h.get hi
  exact h.plv
theorem DAs.ints : ∀ zs : List Int, DAs Z H (zs.map V.int) (zs.map PyData.int)
  | [] => .nil
  | z :: zs => .cons (.int z) (DAs.ints zs)
theorem DAs.rep {v : V} {d : PyData} (h : DA Z H v d) : ∀ n : Nat, DAs Z H (List.replicate n v) (List.replicate n d)
  | 0 => .nil
  | n + 1 => .cons h (DAs.rep h n)
end
/-! ### judged -/
def numJ : PyData → Bool
  | .int i => decide (0 ≤ i) && decide (i ≤ 9999)
  | _ => false
def wJ (lo hi : Int) : PyData → Bool
  | .int i => decide (lo ≤ i) && decide (i ≤ hi)
  | _ => false
def tupJ (lo hi : Int) : PyData → Bool
  | .tuple ds => decide (lo ≤ (ds.length : Int)) && decide ((ds.length : Int) ≤ hi)
  | _ => false
def itemsD : PyData → List PyData
  | .tuple ds => ds
  | _ => []
def nthD (d : PyData) (i : Nat) : PyData := (itemsD d).getD i .none
def intD : PyData → Int
  | .int i => i
  | _ => 0
theorem tupJ_iff {lo hi : Int} {d : PyData} (h : tupJ lo hi d = true) : ∃ ds, d = .tuple ds ∧ lo ≤ (ds.length : Int) ∧ (ds.length : Int) ≤ hi := by
  cases d with
  | tuple ds =>
    have h' : (decide (lo ≤ (ds.length : Int)) && decide ((ds.length : Int) ≤ hi)) = true := h
    rw [Bool.and_eq_true] at h'
    exact ⟨ds, rfl, of_decide_eq_true h'.1, of_decide_eq_true h'.2⟩
  | _ => cases h
theorem wJ_iff {lo hi : Int} {d : PyData} (h : wJ lo hi d = true) : ∃ i, d = .int i ∧ lo ≤ i ∧ i ≤ hi := by
  cases d with
  | int i =>
    have h' : (decide (lo ≤ i) && decide (i ≤ hi)) = true := h
    rw [Bool.and_eq_true] at h'
    exact ⟨i, rfl, of_decide_eq_true h'.1, of_decide_eq_true h'.2⟩
  | _ => cases h
section
variable {Z : Addr → Prop} {H H' : Hp}
theorem DA.isT {lo hi : Int} {v : V} {d : PyData} (h : DA Z H v d) : isT H lo hi v = tupJ lo hi d := by
  cases h with
  | tup h hs =>
    show (match H _ with | some (.tup xs) => _ | _ => false) = _
    rw [h]
    rename_i xs ds
    show (decide (lo ≤ (xs.length : Int)) && decide ((xs.length : Int) ≤ hi)) = (decide (lo ≤ (ds.length : Int)) && decide ((ds.length : Int) ≤ hi))
    rw [hs.len]
  | lst h z hs =>
    show (match H _ with | some (.tup xs) => _ | _ => false) = _
    rw [h]
    rfl
  | _ => rfl
theorem DA.isW {lo hi : Int} {v : V} {d : PyData} (h : DA Z H v d) : isW lo hi v = wJ lo hi d := by
  cases h <;> rfl
theorem DA.tupE {v : V} {ds : List PyData} (h : DA Z H v (.tuple ds)) : ∃ a xs, v = .ref a ∧ H a = some (.tup xs) ∧ DAs Z H xs ds := by
  cases h with
  | tup h hs => exact ⟨_, _, rfl, h, hs⟩
theorem DAs.allW {vs : List V} {ds : List PyData} : DAs Z H vs ds → vs.all (OH.isW 0 9999) = ds.all numJ
  | .nil => rfl
  | .cons h hs => by
    rw [List.all_cons, List.all_cons, DAs.allW hs, h.isW]
    rfl
end
end OH
end
section
set_option Elab.async false
set_option linter.all false
set_option maxRecDepth 100000
set_option maxHeartbeats 4000000
/-! Names. -/
namespace OH
open PySem PySem.Spec PyProof.Rows L2
def wordB (z : Str) : Bool := decide (z ∈ (["block", "depth", "door", "else", "function", "give", "if", "rest", "room", "stop", "uses", "while"] : List Str))
/-- the words of the language, a table of the top -/
structure Wd (K : PySem.W.Frag) (w : World) (mg : Str → Option Value) (aW : Addr) : Prop where
  g : mg "WORDS" = some (.ref aW)
  D : ∃ es n, KDict K w aW es n
  ns : ∀ z : Str, ∃ r, PySem.W.nsIn K aW z = some r ∧ r.isSome = wordB z
def headA (z : Str) : Bool := match z.cps.toList with
  | c :: _ => Txt.isalpha ⟨#[c]⟩
  | [] => false
def goodN (z : Str) : Bool := (decide (1 ≤ z.length) && decide (z.length ≤ 8)) && (!wordB z && (Txt.isascii z && (Txt.isalnum z && (Txt.islower z && headA z))))
def nameJ : PyData → Bool
  | .str z => goodN z
  | _ => false
/-- a dict of at most n names, all of them good -/
def NmAt (H : Hp) (nd : Addr) (n : Nat) : Prop := ∃ ks : List Str, H nd = some (.dK (ks.map fun k => (Sum.inr k, V.bl true))) ∧ ks.length ≤ n ∧ ∀ k ∈ ks, goodN k = true
theorem NmAt.le {H : Hp} {nd : Addr} {m n : Nat} (h : NmAt H nd m) (l : m ≤ n) : NmAt H nd n := let ⟨ks, a, b, c⟩ := h; ⟨ks, a, Nat.le_trans b l, c⟩
theorem NmAt.same {H H' : Hp} {nd : Addr} {n : Nat} (h : NmAt H nd n) (s : Same H H') : NmAt H' nd n := let ⟨ks, a, b, c⟩ := h; ⟨ks, s _ _ a, b, c⟩
theorem val_names (z : Str) : ∀ ks : List Str, (valV (ks.map fun k => ((Sum.inr k : Key), V.bl true)) (Sum.inr z)).isSome = decide (z ∈ ks)
  | [] => rfl
  | k :: ks => by
    by_cases e : z = k
    · subst e
      rw [decide_eq_true List.mem_cons_self]
      unfold valV
      rw [List.map_cons, List.find?_cons_of_pos (by simp)]
      rfl
    · have e2 : decide (z ∈ k :: ks) = decide (z ∈ ks) := by
        rw [decide_eq_decide]
        constructor
        · intro h
          exact (List.mem_cons.mp h).resolve_left e
        · exact List.mem_cons_of_mem _
      rw [e2, ← val_names z ks]
      unfold valV
      rw [List.map_cons, List.find?_cons_of_neg (by simpa using fun y => e y.symm)]
theorem put_names (z : Str) (ks : List Str) (h : z ∉ ks) : putK (ks.map fun k => ((Sum.inr k : Key), V.bl true)) (Sum.inr z) (V.bl true) = (ks ++ [z]).map fun k => ((Sum.inr k : Key), V.bl true) := by
  unfold putK
  rw [if_neg (by
    simp only [List.any_map, List.any_eq_true, Function.comp, decide_eq_true_eq, beq_iff_eq, not_exists, not_and]
    rintro k hk e
    exact h (by injection e with e; rw [← e]; exact hk)), List.map_append]
  rfl
def spGoodName : Sp := fun vs H Q _ => ∃ (Z : Addr → Prop) (v : V) (d : PyData), vs = [v] ∧ DA Z H v d ∧ Q (.bl (nameJ d)) H
def spKnown : Sp := fun vs H Q _ => ∃ (Z : Addr → Prop) (v : V) (d : PyData) (nd : Addr) (n : Nat), vs = [v, .ref nd] ∧ DA Z H v d ∧ NmAt H nd n ∧ n ≤ 1000000 ∧ ∀ H', Kept [nd] H H' → NmAt H' nd (n + 1) → Q (.bl (nameJ d)) H'
section
variable {P : Program} {w : World} {K : PySem.W.Frag} {mg : Str → Option Value} {base : Heap}
theorem sc_good_name : FnScope ["value"] ["value"] (defScope s_good_name) := ⟨rfl, rfl, rfl, by decide +kernel, rfl, by decide +kernel, by decide +kernel⟩
theorem ok_good_name {f aW : Addr} {fd : FuncData} (F : Fun K "good_name" "good_name" s_good_name f fd) (T : Txt K mg) (W : Wd K w mg aW) : FnOk P w K mg base CX0 1 f fd ["value"] spGoodName := by
  obtain ⟨es, ne, D⟩ := W.D
  refine F.ok sc_good_name (fun vs H Q E h => ?_) (fun cdv A outer s H vs Q E hr h => ?_)
  · obtain ⟨Z, v, d, rfl, _⟩ := h
    rfl
  · obtain ⟨Z, v, d, rfl, hv, k⟩ := h
    refine ⟨_, pss_cons (ps_if (PW.pt (pw_or (pt_not (pt_val (pe_callB call_isi (by rfl) T.nIsi (by decide +kernel) (pa_cons (pv 0) (pa_cons (pe_bltn (v := .ty "str") (by rfl) T.nStr (by decide +kernel) rfl) pa_nil)))))
        (pw_or (pt_not (pt_chain op_le op_le pe_int (pe_callB call_len (by rfl) T.nLen (by decide +kernel) (pa_cons (pv 0) pa_nil)) pe_int))
        (pw_or1 (pt_cmpR (op_in_kd D) (pv 0) (pe_glob (v := .ref aW) rfl W.g rfl) (by rfl)))))) (pss_one (ps_ret pe_bl)) pss_nil)
      (pss_one (ps_ret (pe_and (pe_bm0 PySem.F.plainAttrs_str PySem.F.slot_str_isascii PySem.F.type_str_isascii mt_isascii (pv 0))
        (pe_and (pe_bm0 PySem.F.plainAttrs_str PySem.F.slot_str_isalnum PySem.F.type_str_isalnum mt_isalnum (pv 0))
        (pe_and (pe_bm0 PySem.F.plainAttrs_str PySem.F.slot_str_islower PySem.F.type_str_islower mt_islower (pv 0))
        (pe_one (pe_bm0 PySem.F.plainAttrs_str PySem.F.slot_str_isalpha PySem.F.type_str_isalpha mt_isalpha (pe_ix ix_str (pv 0) pe_int (fun _ _ => rfl))))))))), ?_⟩
    cases hv with
    | str z hz =>
      refine ⟨_, rfl, _, _, _, _, _, rfl, .ty "str", .base (.str z), kit_ty (r := true) (by decide +kernel), _, rfl, iteF ?_⟩
      have sL := sizeLine_eq
      have e0 : nameJ (.str z) = ((decide (1 ≤ z.length) && decide (z.length ≤ 8)) && (!wordB z && (Txt.isascii z && (Txt.isalnum z && (Txt.islower z && headA z))))) := rfl
      rw [e0] at k
      obtain ⟨r, hr1, hr2⟩ := W.ns z
      refine ⟨_, rfl, .str z, z.length, rfl, ⟨by omega, rfl⟩, _, _, rfl, rfl, _, rfl, ?_⟩
      refine ite2 (fun q => ?_) (fun q => ?_)
      · have q1 : 1 ≤ z.length := by have := of_decide_eq_true q; omega
        rw [decide_eq_true q1, Bool.true_and] at k
        refine ⟨_, _, rfl, rfl, _, rfl, ?_⟩
        cases q8 : decide ((z.length : Int) ≤ 8) with
        | false =>
          have e8 : decide (z.length ≤ 8) = false := decide_eq_false fun y => by have := of_decide_eq_false q8; omega
          rw [e8, Bool.false_and] at k
          exact iteT (iteT k)
        | true =>
        have e8 : decide (z.length ≤ 8) = true := decide_eq_true (by have := of_decide_eq_true q8; omega)
        rw [e8, Bool.true_and] at k
        refine iteF ?_
        refine ⟨_, rfl, z, r, rfl, rfl, hr1, _, rfl, ?_⟩
        rw [hr2]
        cases qw : wordB z with
        | true =>
          rw [qw] at k
          exact iteT k
        | false =>
        rw [qw] at k
        refine iteF ?_
        replace k : Q (.bl (Txt.isascii z && (Txt.isalnum z && (Txt.islower z && headA z)))) H := k
        refine ⟨_, rfl, rfl, z, rfl, rfl, trivial, _, rfl, ?_⟩
        cases qa : Txt.isascii z with
        | false =>
          rw [qa] at k
          exact iteF k
        | true =>
        rw [qa, Bool.true_and] at k
        refine iteT ⟨_, rfl, rfl, z, rfl, rfl, trivial, _, rfl, ?_⟩
        cases qb : Txt.isalnum z with
        | false =>
          rw [qb] at k
          exact iteF k
        | true =>
        rw [qb, Bool.true_and] at k
        refine iteT ⟨_, rfl, rfl, z, rfl, rfl, trivial, _, rfl, ?_⟩
        cases qc : Txt.islower z with
        | false =>
          rw [qc] at k
          exact iteF k
        | true =>
        rw [qc, Bool.true_and] at k
        have lz : z.cps.toList.length = z.length := by show _ = z.cps.size; simp
        obtain ⟨c, cs, hc⟩ : ∃ c cs, z.cps.toList = c :: cs := by
          match h : z.cps.toList with
          | [] => rw [h] at lz; simp at lz; omega
          | c :: cs => exact ⟨c, cs, rfl⟩
        unfold headA at k
        rw [hc] at k
        refine iteT ?_
        refine ⟨_, rfl, z, 0, c, rfl, rfl, by omega, (by rw [hc]; exact (show atI (c :: cs) ((0 : Nat) : Int) = some c from atI_nat rfl)), rfl, _, rfl, rfl, trivial, k⟩
      · have q1 : ¬ 1 ≤ z.length := fun y => q (decide_eq_true (by omega))
        rw [decide_eq_false q1] at k
        exact ⟨_, rfl, iteT (iteT k)⟩
    | int i => exact ⟨_, rfl, _, _, _, _, _, rfl, .ty "str", .base (.int i), kit_ty (r := false) (by decide +kernel), _, rfl, iteT (iteT k)⟩
    | bl b => exact ⟨_, rfl, _, _, _, _, _, rfl, .ty "str", .base (.bl b), kit_ty (r := false) (by decide +kernel), _, rfl, iteT (iteT k)⟩
    | non => exact ⟨_, rfl, _, _, _, _, _, rfl, .ty "str", .base .non, kit_ty (r := false) (by decide +kernel), _, rfl, iteT (iteT k)⟩
    | tup hx hs => exact ⟨_, rfl, _, _, _, _, _, rfl, .ty "str", .base (.tup hx), kit_ty (r := false) (by decide +kernel), _, rfl, iteT (iteT k)⟩
    | lst hx z hs => exact ⟨_, rfl, _, _, _, _, _, rfl, .ty "str", .base (.lst hx), kit_ty (r := false) (by decide +kernel), _, rfl, iteT (iteT k)⟩
theorem sc_known : FnScope ["value", "names"] ["value", "names"] (defScope s_is_known_name) := ⟨rfl, rfl, rfl, by decide +kernel, rfl, by decide +kernel, by decide +kernel⟩
theorem ok_known {f : Addr} {fd : FuncData} (F : Fun K "is_known_name" "is_known_name" s_is_known_name f fd) (T : Txt K mg) (DN : DefF P w K mg base CX0 1 "good_name" ["value"] spGoodName) : FnOk P w K mg base CX0 2 f fd ["value", "names"] spKnown := by
  refine F.ok sc_known (fun vs H Q E h => ?_) (fun cdv A outer s H vs Q E hr h => ?_)
  · obtain ⟨Z, v, d, nd, n, rfl, _⟩ := h
    rfl
  · obtain ⟨Z, v, d, nd, n, rfl, hv, hn, n6, k⟩ := h
    refine ⟨_, pss_cons (ps_if (pt_not (pt_val (pe_callB call_isi (by rfl) T.nIsi (by decide +kernel) (pa_cons (pv 0) (pa_cons (pe_bltn (v := .ty "str") (by rfl) T.nStr (by decide +kernel) rfl) pa_nil))))) (pss_one (ps_ret pe_bl)) pss_nil)
      (pss_cons (ps_if (pt_cmp (pc_dnotin (Nat.lt_of_le_of_lt (Nat.add_le_add_left (by decide) _) (Room_u65 hr)) (pv 0) (pv 1)))
        (pss_cons (ps_if (pt_not (pt_val (pe_cD DN hr rfl pass0 (pa_cons (pv 0) pa_nil)))) (pss_one (ps_ret pe_bl)) pss_nil)
        (pss_one (ps_asg pe_bl (pg_sub (pv 1) (pv 0) (set_dict (Nat.lt_of_le_of_lt (Nat.add_le_add_left (by decide) _) (Room_u65 hr))))))) pss_nil)
      (pss_one (ps_ret pe_bl))), ?_⟩
    obtain ⟨ks, hnd, lk, gk⟩ := hn
    have sL := sizeLine_eq
    cases hv with
    | str z hz =>
      refine ⟨_, rfl, _, _, _, _, _, rfl, .ty "str", .base (.str z), kit_ty (r := true) (by decide +kernel), _, rfl, iteF ?_⟩
      refine ⟨_, rfl, _, rfl, nd, _, rfl, DGet.k (k := Sum.inr z) hnd, _, rfl, ?_⟩
      rw [val_names]
      by_cases hz2 : z ∈ ks
      · rw [decide_eq_true hz2]
        have kz := k H Kept.refl ⟨ks, hnd, by omega, gk⟩
        rw [show nameJ (.str z) = true from gk z hz2] at kz
        exact iteF kz
      · rw [decide_eq_false hz2]
        refine iteT ?_
        refine ⟨_, rfl, Z, .str z, .str z, rfl, .str z hz, _, rfl, ?_⟩
        cases hg : nameJ (.str z) with
        | false =>
          have kz := k H Kept.refl ⟨ks, hnd, by omega, gk⟩
          rw [hg] at kz
          exact iteT kz
        | true =>
        refine iteF ?_
        refine ⟨_, rfl, _, rfl, nd, _, rfl, DPut.k (k := Sum.inr z) hnd (by rw [List.length_map]; omega), ?_⟩
        rw [put_names z ks hz2]
        have kz := k _ (Kept.refl.upd (List.mem_singleton.mpr rfl)) ⟨ks ++ [z], upd_same, by rw [List.length_append]; show _ + 1 ≤ _; omega, fun y hy => by
          rcases List.mem_append.mp hy with hy | hy
          · exact gk y hy
          · rw [List.mem_singleton.mp hy]; exact hg⟩
        rw [hg] at kz
        exact kz
    | int i => exact ⟨_, rfl, _, _, _, _, _, rfl, .ty "str", .base (.int i), kit_ty (r := false) (by decide +kernel), _, rfl, iteT (k H Kept.refl ⟨ks, hnd, by omega, gk⟩)⟩
    | bl b => exact ⟨_, rfl, _, _, _, _, _, rfl, .ty "str", .base (.bl b), kit_ty (r := false) (by decide +kernel), _, rfl, iteT (k H Kept.refl ⟨ks, hnd, by omega, gk⟩)⟩
    | non => exact ⟨_, rfl, _, _, _, _, _, rfl, .ty "str", .base .non, kit_ty (r := false) (by decide +kernel), _, rfl, iteT (k H Kept.refl ⟨ks, hnd, by omega, gk⟩)⟩
    | tup hx hs => exact ⟨_, rfl, _, _, _, _, _, rfl, .ty "str", .base (.tup hx), kit_ty (r := false) (by decide +kernel), _, rfl, iteT (k H Kept.refl ⟨ks, hnd, by omega, gk⟩)⟩
    | lst hx z hs => exact ⟨_, rfl, _, _, _, _, _, rfl, .ty "str", .base (.lst hx), kit_ty (r := false) (by decide +kernel), _, rfl, iteT (k H Kept.refl ⟨ks, hnd, by omega, gk⟩)⟩
end
end OH
end
section
set_option Elab.async false
set_option linter.all false
set_option maxRecDepth 100000
set_option maxHeartbeats 4000000
/-! set(x) of a list or a tuple, its update left open. -/
namespace OH
open PySem PySem.Spec PyProof.Rows L2
section
variable {P : Program} {w : World} {A : Around} {E : Value → Shared → Prop} {s : Shared}
set_option maxHeartbeats 6400000 in
/-- set(x) of a tuple or a list -/
theorem set_shell {l : Addr} {its : Array Value} {M : Heap → Prop} {Q : Value → Shared → Prop} (hh : A.handled = none) (ht : s.heap.IsTuple l its ∨ s.heap.IsList l its)
    (go : ∀ (I : Addr) (io : Obj) (St : Nat → Shared → Prop) (R : Result → Shared → Prop), I = s.heap.objs.size + 1 → l ≠ I → l < s.heap.objs.size → WalksS P w A.in1.in1.in1 I [I, l] [I] (fun a b => b = a) its.size (fun i v => its[i]? = some v) St → St 0 { s with heap := (s.heap.push (set0 w)).push io } →
      (∀ s', Moved [s.heap.objs.size, I] (fun a b => b = a) { s with heap := (s.heap.push (set0 w)).push io } s' → M s'.heap → R (.ok (.ret .none)) s') → codeAny (model P w) A.in1.in1 (.builtin "set.update.loop" ⟨[.ref s.heap.objs.size, .ref I], []⟩) R { s with heap := (s.heap.push (set0 w)).push io })
    (kk : ∀ (h' : Heap) (tk : Nat), M h' → (∀ b o, s.heap.get? b = some o → h'.get? b = some o) → Q (.ref s.heap.objs.size) { s with heap := h', toks := tk }) :
    wpAny (model P w) A (call (.type "set") [.ref l]) Q E s := by
  have m1 := PySem.F.called_set.made
  have m2 := PySem.F.called_set.sub
  have m3 := PySem.F.called_set.notType
  have m4 := PySem.F.called_set.canCreate
  have m5 := PySem.F.typeCall_set_1 (.ref l)
  obtain ⟨c, tl, hmro⟩ := PySem.F.called_set.mro
  refine wpAny_call (codeAny_of_tree ?_)
  show wpAny _ _ (callAny (.type "set") _) _ _ _
  refine wpAny_pure ⟨Code.quiet_builtin _ (by decide +kernel), codeAny_builtin PySem.F.entry_type_call ?_⟩
  rw [Around.under_plain (weight_type_call_type "set" [.ref l] []) rfl]
  repeat (any_goals (first | assumption | wp_step))
  refine codeAny_mono (code_set_led1 (.ref l) (E := E) (Q₁ := fun v s₁ => v = .ref s.heap.objs.size ∧ s₁ = { s with heap := s.heap.push (set0 w) }) ⟨rfl, rfl⟩) fun r s₁ hr => ?_
  match r, hr with
  | .error er, hr => exact hr
  | .ok (.ret v), hr =>
    obtain ⟨rfl, rfl⟩ := hr
    have at0 : (s.heap.push (set0 w)).get? s.heap.objs.size = some (set0 w) := Heap.get?_push_size _ rfl
    have ty0 : Shared.TypeIs { s with heap := s.heap.push (set0 w) } (.ref s.heap.objs.size) "set" := ⟨_, at0, rfl⟩
    have n1 := PySem.F.called_set.init.lookup
    have n2 := PySem.F.called_set.init.bind (.ref s.heap.objs.size)
    repeat (any_goals (first | assumption | wp_step))
    refine codeAny_mono (codeAny_call_builtin (R := wants (fun r s₂ => r = .none ∧ ∃ h' tk, s₂ = { s with heap := h', toks := tk } ∧ M h' ∧ (∀ b o, s.heap.get? b = some o → h'.get? b = some o)) E)
      PySem.F.called_set.init.plain PySem.F.entry_set_init (check_set_init_1 ty0 ?_)) fun r₂ s₂ hr₂ => ?_
    · have low : l < s.heap.objs.size := ht.elim (fun ⟨_, q, _⟩ => Heap.lt_size q) fun ⟨_, q, _⟩ => Heap.lt_size q
      have h3 : A.in1.in1.in1.handled = none := by simp [hh]
      have two : (s.heap.push (set0 w)).objs.size = s.heap.objs.size + 1 := Heap.size_push ..
      have apart : l ≠ (s.heap.push (set0 w)).objs.size := by
        rw [two]
        exact Nat.ne_of_lt (Nat.lt_succ_of_lt low)
      have kept : ∀ {io : Obj} {G : Array GenState → Array GenState → Prop} {s' : Shared}, Moved [s.heap.objs.size, (s.heap.push (set0 w)).objs.size] G { s with heap := (s.heap.push (set0 w)).push io } s' → ∀ b o, s.heap.get? b = some o → s'.heap.get? b = some o := fun mv b o q => by
        have lb := Heap.lt_size q
        refine mv.heap b o ?_ (Heap.get?_push_of_some _ (Heap.get?_push_of_some _ q))
        rw [two]
        intro z
        rcases List.mem_cons.mp z with z | z
        · exact absurd z (Nat.ne_of_lt lb)
        · exact absurd (List.mem_singleton.mp z) (Nat.ne_of_lt (Nat.lt_succ_of_lt lb))
      obtain ⟨c, c2, nl, c4, io, St, hol', q1, q2, q3, iter, W, st⟩ : ∃ (c : String) (c2 : Option Addr) (nl : Nat) (c4 : Array (Option Value)) (io : Obj) (St : Nat → Shared → Prop), (s.heap.push (set0 w)).get? l = some { cls := .type c, dict := c2, data := .seq its nl, slots := c4 } ∧
          isSubtype (.type c) (.type "set") = pure false ∧ isSubtype (.type c) (.type "frozenset") = pure false ∧ (Value.type c == Value.type "dict") = false ∧
          (∀ {A' : Around} {E' Q' : Value → Shared → Prop}, Q' (.ref (s.heap.push (set0 w)).objs.size) { s with heap := (s.heap.push (set0 w)).push io } → wpAny (model P w) A' (pyIter (.ref l)) Q' E' { s with heap := s.heap.push (set0 w) }) ∧
          WalksS P w A.in1.in1.in1 (s.heap.push (set0 w)).objs.size [(s.heap.push (set0 w)).objs.size, l] [(s.heap.push (set0 w)).objs.size] (fun a b => b = a) its.size (fun i v => its[i]? = some v) St ∧
          St 0 { s with heap := (s.heap.push (set0 w)).push io } := by
        rcases ht with ht | ht
        · have ht1 : (s.heap.push (set0 w)).IsTuple l its := ht.push _
          obtain ⟨⟨c1, c2, c3, c4⟩, hol, hcl, nl, hdl⟩ := id ht1
          simp only at hcl hdl
          subst hcl hdl
          exact ⟨"tuple", c2, nl, c4, _, _, hol, PySem.F.sub_tuple_set, PySem.F.sub_tuple_frozenset, by decide, fun q => wpAny_pyIter_tuple ht1 q, (Walks.tuple h3 _ l apart its).toS, ⟨⟨_, Heap.get?_push_size _ rfl, rfl, rfl⟩, ht1.push _⟩⟩
        · have ht1 : (s.heap.push (set0 w)).IsList l its := ht.push _
          obtain ⟨⟨c1, c2, c3, c4⟩, hol, hcl, nl, hdl⟩ := id ht1
          simp only at hcl hdl
          subst hcl hdl
          exact ⟨"list", c2, nl, c4, _, _, hol, PySem.F.sub_list_set, PySem.F.sub_list_frozenset, by decide, fun q => wpAny_pyIter_list ht1 q, (Walks.list h3 _ l apart its).toS, ⟨⟨_, Heap.get?_push_size _ rfl, rfl, rfl⟩, ht1.push _⟩⟩
      unfold Builtin.«set.__init__» noKeywords Builtin.Frozenset.updateFrom
      generalize hPI : pyIter = PI
      wp_walk
      subst hPI
      refine iter (wpAny_bind (wpAny_runValue ?_))
      refine go _ io St _ two apart low W st fun s' mv x => ?_
      have kp := kept mv
      obtain ⟨h', g2, d2, tk, o2⟩ := s'
      obtain rfl : g2 = s.gens := mv.gens
      obtain rfl : d2 = s.drawn := mv.drawn
      obtain rfl : o2 = s.os := mv.os
      show wpAny _ _ _ _ _ _
      refine wpAny_pure ?_
      show wpAny _ _ (ret Value.none) _ _ _
      exact wpAny_pure ⟨rfl, h', tk, rfl, x, kp⟩
    · match r₂, hr₂ with
      | .error er, hr₂ => exact hr₂
      | .ok (.ret r), hr₂ =>
        obtain ⟨rfl, h', tk, rfl, x, kp⟩ := hr₂
        repeat (any_goals (first | assumption | wp_step))
        exact kk _ _ x kp
end
end OH
end
section
set_option Elab.async false
set_option linter.all false
set_option maxRecDepth 100000
set_option maxHeartbeats 4000000
/-! len(set(x)), x a list or a tuple of strings. -/
namespace OH
open PySem PySem.Spec PyProof.Rows L2
/-- m is how many different ones a list has, as far as one asks whether they are all of them -/
def Few (ks : List Str) (m : Nat) : Prop := m ≤ ks.length ∧ (m = ks.length ↔ ks.Nodup)
theorem Few.nil : Few [] 0 := ⟨Nat.le_refl _, fun _ => List.nodup_nil, fun _ => rfl⟩
theorem Few.old {ks : List Str} {m : Nat} {z : Str} (f : Few ks m) (h : z ∈ ks) : Few (ks ++ [z]) m := by
  refine ⟨by rw [List.length_append]; exact Nat.le_trans f.1 (Nat.le_add_right _ _), fun e => ?_, fun n => ?_⟩
  · rw [List.length_append, List.length_singleton] at e
    have := f.1
    omega
  · exact absurd rfl ((List.nodup_append.mp n).2.2 z h z (List.mem_singleton.mpr rfl))
theorem Few.new {ks : List Str} {m : Nat} {z : Str} (f : Few ks m) (h : z ∉ ks) : Few (ks ++ [z]) (m + 1) := by
  refine ⟨by rw [List.length_append]; exact Nat.add_le_add_right f.1 1, fun e => ?_, fun n => ?_⟩
  · rw [List.length_append, List.length_singleton] at e
    refine List.nodup_append.mpr ⟨f.2.mp (by omega), List.nodup_cons.mpr ⟨by simp, List.nodup_nil⟩, fun a ha b hb e => h ?_⟩
    rw [List.mem_singleton.mp hb] at e
    rwa [← e]
  · rw [List.length_append, List.length_singleton, f.2.mpr (List.nodup_append.mp n).1]
section
variable {P : Program} {w : World} {A : Around} {E : Value → Shared → Prop} {s : Shared}
/-- what has come into the set so far -/
def Sofar (P : Program) (w : World) (h : Heap) (S : Addr) (ks : List Str) : Prop := ∃ m, Few ks m ∧ h.SetOf (strKind P w) S (fun z => decide (z ∈ ks)) m
theorem Sofar.over {h h' : Heap} {S : Addr} {ks : List Str} (x : Sofar P w h S ks) (k : ∀ o, h.get? S = some o → h'.get? S = some o) : Sofar P w h' S ks := by
  obtain ⟨m, f, o, es, ep, t, ho, r⟩ := x
  exact ⟨m, f, o, es, ep, t, k o ho, r⟩
/-- one more comes -/
theorem Sofar.more {h' : Heap} {S : Addr} {ks : List Str} {z : Str} {m : Nat} (f : Few ks m) (x : h'.SetOf (strKind P w) S (fun y => decide (y ∈ ks) || decide (y = z)) (if decide (z ∈ ks) then m else m + 1)) : Sofar P w h' S (ks ++ [z]) := by
  have fe : (fun y => decide (y ∈ ks) || decide (y = z)) = fun y => decide (y ∈ ks ++ [z]) := funext fun y => by
    rw [Bool.eq_iff_iff]
    simp
  rw [fe] at x
  by_cases c : z ∈ ks
  · rw [decide_eq_true c, if_pos rfl] at x
    exact ⟨m, f.old c, x⟩
  · rw [decide_eq_false c, if_neg (by decide)] at x
    exact ⟨m + 1, f.new c, x⟩
/-- the way through the strings that are left, tl, once hd have been taken in -/
theorem fill_strs {I S : Addr} {fp wr : List Addr} {G : Array GenState → Array GenState → Prop} {n : Nat} {Pv : Nat → Value → Prop} {St : Nat → Shared → Prop} {R : Result → Shared → Prop}
    (W : WalksS P w A.in1 I fp wr G n Pv St) (out : S ∉ fp) (ks : List Str) (len : ks.length = n) (few : n < 4000) (at_ : ∀ i v, Pv i v → ∃ z t, ks[i]? = some z ∧ v = Value.str z t) : ∀ (tl hd : List Str) (s : Shared), ks = hd ++ tl → St hd.length s →
      Sofar P w s.heap S hd → (∀ s', Moved (S :: wr) G s s' → Sofar P w s'.heap S ks → R (.ok (.ret .none)) s') → codeAny (model P w) A (.builtin "set.update.loop" ⟨[.ref S, .ref I], []⟩) R s
  | [], hd, s, e, st, x, fin => by
    rw [List.append_nil] at e
    subst e
    rw [len] at st
    have off : S ∉ wr := fun h => out (W.sub _ h)
    refine codeAny_builtin F.entry_set_update_loop ?_
    rw [Around.under_plainId F.plain_set_update_loop _]
    show wpAny (model P w) A.in1 (pyNext (.ref I) >>= _) _ _ s
    exact wpAny_bind (W.done s _ _ st fun s' mv => (by
      show wpAny _ _ (ret Value.none) _ _ _
      exact wpAny_pure (fin s' (mv.mono fun b hb => List.mem_cons_of_mem _ hb) (x.over fun o q => mv.heap S o off q))))
  | z :: tl, hd, s, e, st, x, fin => by
    have off : S ∉ wr := fun h => out (W.sub _ h)
    have sz : hd.length + (tl.length + 1) = n := by rw [← len, e, List.length_append]; rfl
    refine codeAny_builtin F.entry_set_update_loop ?_
    rw [Around.under_plainId F.plain_set_update_loop _]
    show wpAny (model P w) A.in1 (pyNext (.ref I) >>= _) _ _ s
    refine wpAny_bind (W.item hd.length s _ _ (by omega) st fun v s' pv st' mv => ?_)
    obtain ⟨z2, t, hz, rfl⟩ := at_ _ v pv
    rw [e, List.getElem?_append_right (Nat.le_refl _), Nat.sub_self] at hz
    obtain rfl : z = z2 := Option.some.inj hz
    obtain ⟨m, f, x2⟩ := x.over fun o q => mv.heap S o off q
    show wpAny (model P w) A.in1 (holding [Value.str z t] (setAdd S (.str z t)) >>= _) _ _ s'
    refine wpAny_bind (wpAny_holding ?_)
    unfold setAdd
    refine wpAny_holding (wpAny_bind ((strKind P w).pyHash (k := z) (strKind_is _ _ _ _) ?_))
    have le := f.1
    refine wpAny_setAddHashed_of (knd := strKind P w) (s := { s' with toks := s'.toks + 1 }) (strKind_is _ _ _ _) rfl x2 (by unfold scanBound; omega) fun h' but x3 => ?_
    have else_ : ∀ b o, b ≠ S → s'.heap.get? b = some o → h'.get? b = some o := fun b o ne q => (but.2 b ne).trans q
    refine wpAny_pure ⟨plainId_quiet F.plain_set_update_loop _, ?_⟩
    refine fill_strs W out ks len few at_ tl (hd ++ [z]) _ (by rw [e, List.append_assoc]; rfl) ?_ (Sofar.more f x3) fun s'' mv2 x4 => fin s'' (Moved.trans W.gtrans ((mv.mono fun b hb => List.mem_cons_of_mem _ hb).then_heap (Nat.le_succ _) fun b o hb q => ?_) mv2) x4
    · rw [List.length_append]
      exact W.frame _ s' _ _ st' (Nat.le_succ _) fun b hb o q => else_ b o (fun y => out (by rw [← y]; exact hb)) q
    · exact else_ b o (fun y => hb (by rw [y]; exact List.mem_cons_self)) q
/-- set(x) of a tuple or a list with these strings -/
theorem set_of_strs {l : Addr} {its : Array Value} (ks : List Str) {Q : Value → Shared → Prop} (hh : A.handled = none) (ht : s.heap.IsTuple l its ∨ s.heap.IsList l its) (hi : ∀ (i : Nat) (v : Value), its[i]? = some v → ∃ z t, ks[i]? = some z ∧ v = Value.str z t) (len : ks.length = its.size) (few : ks.length < 4000)
    (kk : ∀ (h' : Heap) (tk : Nat), Sofar P w h' s.heap.objs.size ks → (∀ b o, s.heap.get? b = some o → h'.get? b = some o) → Q (.ref s.heap.objs.size) { s with heap := h', toks := tk }) :
    wpAny (model P w) A (call (.type "set") [.ref l]) Q E s := by
  refine set_shell (M := fun h => Sofar P w h s.heap.objs.size ks) hh ht (fun I io St R eI ne low W st fin => ?_) kk
  refine fill_strs W (fun z => ?_) ks len (by omega) hi ks [] _ rfl st ⟨0, Few.nil, SetOf_congr ((setObjOf_fresh (knd := strKind P w) _).setOf (Heap.get?_push_of_some io (Heap.get?_push_size _ rfl)) (by unfold scanBound; omega)) (fun _ => rfl) rfl⟩ fin
  rcases List.mem_cons.mp z with z | z
  · exact absurd (z.trans eI) (Nat.ne_of_lt (Nat.lt_succ_self _))
  · exact absurd (List.mem_singleton.mp z) (Nat.ne_of_gt low)
end
theorem strs_of : ∀ {ks : List Str} {us : List Value}, Vals (ks.map V.str) us → us.length = ks.length ∧ ∀ (i : Nat) (v : Value), us[i]? = some v → ∃ z t, ks[i]? = some z ∧ v = Value.str z t
  | [], us, r => by
    cases r
    exact ⟨rfl, fun i v h => by simp at h⟩
  | z :: ks, us, r => by
    cases r with
    | cons r1 r2 =>
      obtain ⟨a, b⟩ := strs_of r2
      refine ⟨by rw [List.length_cons, List.length_cons, a], fun i v h => ?_⟩
      cases i with
      | zero =>
        obtain rfl := Option.some.inj h
        obtain ⟨t, e⟩ : ∃ t, _ = Value.str z t := r1
        exact ⟨z, t, rfl, e⟩
      | succ i => exact b i v h
/-- the strings of a tuple or a list -/
def StrsAt (K : PySem.W.Frag) (H : Hp) (l : Addr) (ks : List Str) : Prop := SqT K H l (ks.map V.str) ∨ SqL K H l (ks.map V.str)
def tLenSetS (K : PySem.W.Frag) (ta : TE) : TE := fun σ H Q => ta σ H fun x H1 => ∃ (l : Addr) (ks : List Str), x = .ref l ∧ StrsAt K H1 l ks ∧ ks.length < 4000 ∧ ∀ n : Nat, (n = ks.length ↔ ks.Nodup) → Q (.int n) H1
theorem pe_lenSetS {X : Cx} {a : Expr} {ta : TE} {p p2 q pos : Pos} (hg : Gl X "len") (hm : X.mg "len" = none) (hg2 : Gl X "set") (hm2 : X.mg "set" = none) (ha : PE X a ta) (hc : X.calm = true := by rfl)
    (na : starEach [a] X.env = (false, eval a X.env) :: starEach [] X.env := by rfl) : PE X (.Call (.Name "len" p) [.Call (.Name "set" p2) [a] [] q] [] pos) (tLenSetS X.K ta) := by
  refine ⟨fun pins s σ H Q I h => ?_⟩
  refine Call_ (ld_blt I hg hm boot_len (PyProof.Rows.callWith_builtin1 (PyProof.Rows.args_cons ?_ rfl) rfl rfl))
  refine Call_ (ld_blt I hg2 hm2 boot_set (PyProof.Rows.callWith_type1 (PyProof.Rows.args_cons (thn (ha.run pins s σ H _ I h) fun v s1 ⟨x, H1, I1, r1, l, ks, ex, hq, hf, q1⟩ => PyProof.Rows.args_nil ?_) na) na rfl))
  subst ex
  cases r1
  obtain ⟨its, ht, r⟩ : ∃ its : Array Value, (s1.heap.IsTuple l its ∨ s1.heap.IsList l its) ∧ Vals (ks.map V.str) its.toList := by
    rcases hq with hq | hq
    · obtain ⟨its, r, pl, hz⟩ := I1.tuple hq
      exact ⟨its.toArray, .inl pl, by simpa using r⟩
    · obtain ⟨its, r, pl, hz⟩ := I1.list hq
      exact ⟨its.toArray, .inr pl.isList, by simpa using r⟩
  obtain ⟨e1, e2⟩ := strs_of r
  rw [Array.length_toList] at e1
  refine set_of_strs (P := X.prog) (w := X.w) ks (I1.ok.hd hc) ht (fun i v hv => e2 i v (by rw [Array.getElem?_toList]; exact hv)) e1.symm hf fun h' tk ⟨m, f, o, es, ep, t, ho, hex, hd, _, _, sb, ft, em⟩ kp => ?_
  refine PyProof.Rows.args_nil ?_
  have I2 : Inv X pins σ H1 { s1 with heap := h', toks := tk } := I1.kept fun b o e => kp b o e
  refine call_len_set ho hex hd ft (by rw [em]; have := f.1; omega) ⟨.int m, H1, I2.tok _, ⟨_, by rw [em]⟩, q1 m f.2⟩
end OH
end
section
set_option Elab.async false
set_option linter.all false
set_option maxRecDepth 100000
set_option maxHeartbeats 4000000
/-! Sets of tuples of strings: what stands in one, and looking for a tuple in it. -/
namespace OH
open PySem PySem.Spec PyProof.Rows L2
section
variable {P : Program} {w : World} {A : Around} {E : Value → Shared → Prop} {s : Shared}
/-- the tuple at b is these strings -/
abbrev TStr (P : Program) (w : World) (h : Heap) (k : List Str) (b : Addr) : Prop := IsTupleKey (strKind P w) h k b
abbrev hS (P : Program) (w : World) (k : List Str) : Int := tupleKeyHash (strKind P w) k
theorem only_strs {ks : List Str} {vs : List Value} (h : ItemsAre (strKind P w) ks vs) : ∀ v ∈ vs, ∃ z t, v = Value.str z t := by
  induction h with
  | nil => exact fun v hv => nomatch hv
  | @cons k0 v' ks vs h1 _ ih =>
    intro v hv
    rcases List.mem_cons.mp hv with rfl | hv
    · cases v with
      | str z t => exact ⟨z, t, rfl⟩
      | _ => exact absurd h1 (by simp [PySem.strKind, Value.isStrOf])
    · exact ih v hv
theorem cls_str (n : Nat) (z : Str) (t : Tok) : ofAClassStatement n (.str z t) = pure false := by cases n <;> rfl
theorem hbv_str (n : Nat) (z : Str) (t : Tok) : hashByValue n (.str z t) = pure false := by cases n <;> rfl
theorem cls_tstr {k : List Str} {b : Addr} {Q : Bool → Shared → Prop} (x : TStr P w s.heap k b) (q : Q false s) : wpAny (model P w) A (ofAClassStatement 8 (.ref b)) Q E s := by
  have ty := x.typeIs
  obtain ⟨o, its, n, ho, _, hd, hi⟩ := x
  unfold ofAClassStatement
  refine wpAny_bind (wpAny_typeOf ty ?_)
  simp only [show (("tuple" : String) == "tuple") = true by decide, if_true, Bool.not_true, Bool.false_eq_true, if_false]
  try refine wpAny_bind (wpAny_pure ?_)
  try simp only [Bool.not_true, Bool.false_eq_true, if_false]
  show wpAny _ _ (seqItems? (.ref b) >>= _) _ _ s
  refine wpAny_bind (wpAny_seqItems ho hd (wpAny_bind ?_))
  show wpAny _ _ (forIn its _ _) _ _ s
  rw [← Array.forIn_toList]
  refine wpAny_forIn_list _ (fun left r s' => s' = s ∧ r.1 = none ∧ ∀ v ∈ left, ∃ z t, v = Value.str z t) _ (fun v left r s' ⟨es, er, all⟩ => ?_) (fun ⟨r1, r2⟩ s' ⟨es, er, _⟩ => ?_) _ _ ⟨rfl, rfl, only_strs hi⟩
  · subst es
    obtain ⟨z, t, rfl⟩ := all v List.mem_cons_self
    rw [cls_str]
    refine wpAny_bind (wpAny_pure ?_)
    simp only [Bool.false_eq_true, if_false]
    exact wpAny_pure ⟨rfl, rfl, fun u hu => all u (List.mem_cons_of_mem _ hu)⟩
  · subst es
    obtain rfl : r1 = none := er
    exact wpAny_pure q
/-- whether its hash is one by value: no, or, of an empty one, yes -/
theorem hbv_tstr {k : List Str} {b : Addr} {Q : Bool → Shared → Prop} (x : TStr P w s.heap k b) (q : ∀ r, Q r s) : wpAny (model P w) A (hashByValue 8 (.ref b)) Q E s := by
  have ty := x.typeIs
  obtain ⟨o, its, n, ho, _, hd, hi⟩ := x
  unfold hashByValue
  refine wpAny_bind (wpAny_specialOf ty F.slot_tuple_hash.lookup ?_)
  show wpAny _ _ (seqItems? (.ref b) >>= _) _ _ s
  refine wpAny_bind (wpAny_seqItems ho hd (wpAny_bind ?_))
  show wpAny _ _ (forIn its _ _) _ _ s
  rw [← Array.forIn_toList]
  refine wpAny_forIn_list _ (fun left r s' => s' = s ∧ r.1 = none ∧ ∀ v ∈ left, ∃ z t, v = Value.str z t) _ (fun v left r s' ⟨es, er, all⟩ => ?_) (fun ⟨r1, r2⟩ s' ⟨es, er, _⟩ => ?_) _ _ ⟨rfl, rfl, only_strs hi⟩
  · subst es
    obtain ⟨z, t, rfl⟩ := all v List.mem_cons_self
    rw [hbv_str]
    refine wpAny_bind (wpAny_pure ?_)
    simp only [Bool.not_false, if_true]
    exact wpAny_pure (wpAny_pure (q _))
  · subst es
    obtain rfl : r1 = none := er
    exact wpAny_pure (q _)
/-- looking through tuples of strings can't be seen -/
theorem unseen {k : List Str} {b : Addr} {Q : Bool → Shared → Prop} (x : TStr P w s.heap k b) {ys : List Value} (hy : ∀ y ∈ ys, ∃ k' c, y = Value.ref c ∧ TStr P w s.heap k' c) (q : Q false s) : wpAny (model P w) A (searchCouldBeSeen (.ref b) ys) Q E s := by
  unfold searchCouldBeSeen
  refine wpAny_bind ?_
  refine wpAny_forIn_list _ (fun left r s' => s' = s ∧ r.1 = none ∧ ∀ y ∈ left, ∃ k' c, y = Value.ref c ∧ TStr P w s.heap k' c) _ (fun v left r s' ⟨es, er, all⟩ => ?_) (fun ⟨r1, r2⟩ s' ⟨es, er, _⟩ => ?_) _ _ ⟨rfl, rfl, hy⟩
  · subst es
    obtain ⟨k', c, rfl, y⟩ := all v List.mem_cons_self
    dsimp only
    by_cases hv : (b == c || (carriedByValue (.ref b) && carriedByValue (.ref c))) = true
    · exact wp_if_pos hv (wpAny_pure ⟨rfl, rfl, fun u hu => all u (List.mem_cons_of_mem _ hu)⟩)
    · refine wp_if_neg hv (wpAny_bind (wpAny_eqIsQuiet_tuple x ?_))
      simp only [Bool.not_true, Bool.false_eq_true, if_false]
      refine wpAny_bind (wpAny_eqIsQuiet_tuple y ?_)
      simp only [Bool.not_true, Bool.false_eq_true, if_false]
      refine wpAny_bind (cls_tstr x ?_)
      simp only [Bool.false_eq_true, if_false]
      refine wpAny_bind (cls_tstr y ?_)
      simp only [Bool.false_eq_true, if_false]
      exact wpAny_pure ⟨rfl, rfl, fun u hu => all u (List.mem_cons_of_mem _ hu)⟩
  · subst es
    obtain rfl : r1 = none := er
    exact wpAny_pure q
/-- a set at a with the tuples of L, in the order in which its table holds them -/
structure Bag (P : Program) (w : World) (h : Heap) (a : Addr) (L : List (Addr × List Str)) (es : Array (Int × Value)) (ep : Nat) (t : SetTable) : Prop where
  obj : ∃ o, h.get? a = some o ∧ o.ExactSet ∧ o.data = .set es ep t
  row : es.toList = L.map fun p => (hS P w p.2, Value.ref p.1)
  tab : TabOk t (L.map fun p => hS P w p.2)
  one : (L.map (·.2)).Nodup
  are : ∀ p ∈ L, TStr P w h p.2 p.1
  wide : L.length * 5 < t.mask * 3
  few : L.length < 64
  led : w.params.followText "set-order" = true ∨ t.led = true
variable {a : Addr} {L : List (Addr × List Str)} {es : Array (Int × Value)} {ep : Nat} {t : SetTable}
theorem Bag.es_size (B : Bag P w s.heap a L es ep t) : es.size = L.length := by
  rw [← Array.length_toList, B.row, List.length_map]
theorem Bag.places (B : Bag P w s.heap a L es ep t) : t.place.size = L.length := by
  rw [B.tab.sz, List.length_map]
theorem Bag.fits (B : Bag P w s.heap a L es ep t) : t.fits es.size = true := by
  have := B.wide
  have := B.es_size
  have := B.places
  unfold SetTable.fits SetTable.fill
  rw [B.tab.dm, Bool.and_eq_true, beq_iff_eq, decide_eq_true_eq]
  refine ⟨by omega, ?_⟩
  show t.place.size + 0 ≤ t.mask
  omega
theorem Bag.entry (B : Bag P w s.heap a L es ep t) {i : Nat} {p : Addr × List Str} (h : L[i]? = some p) : es[i]? = some (hS P w p.2, Value.ref p.1) := by
  rw [← Array.getElem?_toList, B.row, List.getElem?_map, h]
  rfl
theorem Bag.stands (B : Bag P w s.heap a L es ep t) {i j : Nat} (h : t.place.toList[i]? = some j) : ∃ p, L[i]? = some p := by
  have q := (List.getElem?_eq_some_iff.mp h).1
  rw [Array.length_toList, B.places] at q
  exact ⟨L[i], List.getElem?_eq_getElem q⟩
/-- the probes of a hash, one behind another -/
def pb (m : Nat) (h : Int) (c : Nat) : SetTable.Probe := nth m (runAt m (SetTable.bits h % (m + 1)) (SetTable.bits h)) c
theorem pb_on (m : Nat) (h : Int) (c q : Nat) : nth m (pb m h c) q = pb m h (c + q) := (nth_add m c _ q).symm
theorem pb_way (m : Nat) (h : Int) (c q : Nat) : (nth m (pb m h c) q).j = way m h (c + q) := by rw [pb_on]; rfl
theorem pb_clean (m : Nat) (h : Int) (c : Nat) : (pb m h c).dummy = none := by
  have step : ∀ (n : Nat) (p : SetTable.Probe), p.dummy = none → (nth m p n).dummy = none := fun n => by
    induction n with
    | zero => exact fun p e => e
    | succ n ih =>
      refine fun p e => ih (adv m p) ?_
      unfold adv
      split <;> exact e
  exact step c _ rfl
end
end OH
end
section
set_option Elab.async false
set_option linter.all false
set_option maxRecDepth 100000
set_option maxHeartbeats 4000000
/-! Sets of tuples of strings: the search. -/
namespace OH
open PySem PySem.Spec PyProof.Rows L2
section
variable {P : Program} {w : World} {A : Around} {E : Value → Shared → Prop} {s : Shared}
variable {a : Addr} {L : List (Addr × List Str)} {es : Array (Int × Value)} {ep : Nat} {t : SetTable}
/-- behind an entry i that has the hash -/
theorem seek_at (B : Bag P w s.heap a L es ep t) {x : Addr} {k : List Str} (hx : TStr P w s.heap k x) (hu : A.units < cLine) {f i j : Nat} {next : SetTable.Probe} {p : Addr × List Str} (hp : L[i]? = some p) (hj : t.place.toList[i]? = some j) {Q : SetFound → Shared → Prop}
    (yes : p.2 = k → Q (.there none) s) (go_on : p.2 ≠ k → wpAny (model P w) A (setSearchFrom a (.ref x) (hS P w k) true f (some next)) Q E s) :
    wpAny (model P w) A (searchRest a (.ref x) (hS P w k) true f es t j i next) Q E s := by
  obtain ⟨o, ho, hex, hd⟩ := B.obj
  unfold searchRest
  rw [B.entry hp]
  dsimp only
  refine wpAny_bind (wpAny_holding (wpAny_eqBool_tuple hu (B.are p (List.mem_of_getElem? hp)) hx (wpAny_bind (wpAny_setState_of ho hd B.fits ?_))))
  dsimp only
  rcases Classical.em (p.2 = k) with e | e
  · exact wp_if_pos (by simp [e]) (wpAny_pure (yes e))
  · refine wp_if_neg (by simp [e]) ?_
    try refine wpAny_bind (wpAny_pure ?_)
    rw [sameMem]
    dsimp only
    simp only [if_true, slot_live B.tab.ris hj, B.entry hp]
    refine wpAny_bind (wpAny_isSame_ref_self (wpAny_bind (wpAny_pure ?_)))
    simp only [if_true]
    exact wp_if_neg (by simp [e]) (go_on e)
/-- from the c-th probe on, when none of the probes ahead of it has met the key -/
theorem seek (B : Bag P w s.heap a L es ep t) {x : Addr} {k : List Str} (hx : TStr P w s.heap k x) (hu : A.units < cLine) {K : Nat} (hKf : K < 10 * SetTable.turns t.mask) (hK : way t.mask (hS P w k) K ∉ t.place.toList) (hKb : ∀ c, c < K → way t.mask (hS P w k) c ∈ t.place.toList)
    {Q : SetFound → Shared → Prop} (yes : k ∈ L.map (·.2) → Q (.there none) s) (no : k ∉ L.map (·.2) → Q (.free (way t.mask (hS P w k) K) false) s) :
    ∀ (f c : Nat) (stand : Option SetTable.Probe), stand.getD (t.probeStart (hS P w k)) = pb t.mask (hS P w k) c → c ≤ K → K - c < f →
      (∀ (d i : Nat) p, d < c → L[i]? = some p → t.place.toList[i]? = some (way t.mask (hS P w k) d) → p.2 ≠ k) → wpAny (model P w) A (setSearchFrom a (.ref x) (hS P w k) true f stand) Q E s
  | 0, _, _, _, _, lt, _ => absurd lt (Nat.not_lt_zero _)
  | f + 1, c, stand, est, le, lt, ahead => by
    obtain ⟨o, ho, hex, hd⟩ := B.obj
    have hashes : ∀ (i : Nat) p, L[i]? = some p → (es[i]?.map (·.1)).getD 0 = hS P w p.2 := fun i p hp => by
      rw [B.entry hp]
      rfl
    have odd : ¬ t.gaveWay = true := by
      unfold SetTable.gaveWay
      rw [mask_odd B.tab.mok]
      decide
    rw [setSearchFrom_succ]
    refine wpAny_bind (wpAny_setState_of ho hd B.fits ?_)
    dsimp only
    refine wp_if_neg odd ?_
    try refine wpAny_bind (wpAny_pure ?_)
    have met := go_spec t B.tab.ris B.tab.dm (fun i => (es[i]?.map (·.1)).getD 0) (hS P w k) (10 * SetTable.turns t.mask) (K - c) _ (pb_clean t.mask (hS P w k) c) (by omega)
      (fun q hq => by rw [pb_way]; exact hKb (c + q) (by omega)) (by rw [pb_way, Nat.add_sub_cancel' le]; exact hK)
    rcases met with ⟨q, i, hq, hi, hh, first, ans⟩ | ⟨never, ans⟩
    · replace ans : t.probe (fun i => (es[i]?.map (·.1)).getD 0) (hS P w k) (stand.getD (t.probeStart (hS P w k))) = some (.candidate (way t.mask (hS P w k) (c + q)) i (pb t.mask (hS P w k) (c + (q + 1)))) := by
        rw [est, ← pb_way, ← pb_on]
        exact ans
      rw [ans]
      dsimp only
      rw [pb_way] at hi
      obtain ⟨p, hp⟩ := B.stands hi
      have rest : wpAny (model P w) A (searchRest a (.ref x) (hS P w k) true f es t (way t.mask (hS P w k) (c + q)) i (pb t.mask (hS P w k) (c + (q + 1)))) Q E s := by
        refine seek_at B hx hu hp hi (fun e => yes (List.mem_map.mpr ⟨p, List.mem_of_getElem? hp, e⟩)) fun ne => seek B hx hu hKf hK hKb yes no f (c + (q + 1)) _ rfl (by omega) (by omega) fun d i2 p2 hd2 hp2 hi2 e2 => ?_
        rcases Nat.lt_trichotomy d (c + q) with z | z | z
        · rcases Nat.lt_or_ge d c with y | y
          · exact ahead d i2 p2 y hp2 hi2 e2
          · refine first (d - c) i2 (by omega) (by rw [pb_way, Nat.add_sub_cancel' y]; exact hi2) ?_
            show (es[i2]?.map (·.1)).getD 0 = _
            rw [hashes i2 p2 hp2, e2]
        · subst z
          have s1 := slot_live B.tab.ris hi
          rw [slot_live B.tab.ris hi2] at s1
          injection s1 with s1
          rw [s1, hp] at hp2
          exact ne ((congrArg Prod.snd (Option.some.inj hp2)).trans e2)
        · omega
      rcases Classical.em (t.led = true) with l | l
      · refine wp_if_neg (by simp [l]) ?_
        try refine wpAny_bind (wpAny_pure ?_)
        exact rest
      · refine wp_if_pos (by simp [l]) (wpAny_bind (unseen hx (fun y hy => ?_) ?_))
        · obtain ⟨e, he, rfl⟩ := List.mem_map.mp hy
          have he2 : e ∈ es.toList := by
            have q : e ∈ es ∧ e.1 = hS P w k := by simpa using he
            simpa using q.1
          rw [B.row] at he2
          obtain ⟨p2, m2, rfl⟩ := List.mem_map.mp he2
          exact ⟨p2.2, p2.1, rfl, B.are p2 m2⟩
        · refine wp_if_neg (by decide) ?_
          try refine wpAny_bind (wpAny_pure ?_)
          exact rest
    · replace ans : t.probe (fun i => (es[i]?.map (·.1)).getD 0) (hS P w k) (stand.getD (t.probeStart (hS P w k))) = some (.empty (way t.mask (hS P w k) K) none) := by
        have e : (nth t.mask (pb t.mask (hS P w k) c) (K - c)).j = way t.mask (hS P w k) K := by rw [pb_way, Nat.add_sub_cancel' le]
        rw [est, ← e]
        exact ans
      rw [ans]
      dsimp only
      refine wpAny_pure (no fun there => ?_)
      obtain ⟨p, m, e⟩ := List.mem_map.mp there
      obtain ⟨i, hi⟩ := List.getElem?_of_mem m
      have il : i < t.place.toList.length := by
        rw [Array.length_toList, B.places]
        exact (List.getElem?_eq_some_iff.mp hi).1
      have hj := List.getElem?_eq_getElem il
      obtain ⟨d, dl, ed⟩ := B.tab.before hK (i := i) (by rw [List.getElem?_map, hi, ← e]; rfl) hj
      rw [← ed] at hj
      rcases Nat.lt_or_ge d c with y | y
      · exact ahead d i p y hi hj e
      · refine never (d - c) i (by omega) (by rw [pb_way, Nat.add_sub_cancel' y]; exact hj) ?_
        show (es[i]?.map (·.1)).getD 0 = _
        rw [hashes i p hi, e]
/-- the search for a tuple that is to be added -/
theorem seek_all (B : Bag P w s.heap a L es ep t) {x : Addr} {k : List Str} (hx : TStr P w s.heap k x) (hu : A.units < cLine) {Q : SetFound → Shared → Prop} (yes : k ∈ L.map (·.2) → Q (.there none) s)
    (no : ∀ K, k ∉ L.map (·.2) → way t.mask (hS P w k) K ∉ t.place.toList → (∀ c, c < K → way t.mask (hS P w k) c ∈ t.place.toList) → Q (.free (way t.mask (hS P w k) K) false) s) :
    wpAny (model P w) A (setSearch a (.ref x) (hS P w k) true) Q E s := by
  have wd := B.wide
  obtain ⟨K, hKf, hK, hKb⟩ := B.tab.first (by rw [List.length_map]; omega) (hS P w k)
  have small : 10 * SetTable.turns t.mask ≤ 1500 := by
    unfold SetTable.turns
    rcases B.tab.mok with e | e | e <;> omega
  exact seek B hx hu hKf hK hKb yes (fun n => no K n hK hKb) 100000 0 none rfl (Nat.zero_le _) (by omega) fun d i p l => absurd l (Nat.not_lt_zero _)
end
end OH
end
section
set_option Elab.async false
set_option linter.all false
set_option maxRecDepth 100000
set_option maxHeartbeats 4000000
/-! Sets of tuples of strings: adding one. -/
namespace OH
open PySem PySem.Spec PyProof.Rows L2
section
variable {P : Program} {w : World} {A : Around} {E : Value → Shared → Prop} {s : Shared}
variable {a : Addr} {L : List (Addr × List Str)} {es : Array (Int × Value)} {ep : Nat} {t : SetTable}
theorem TStr.off {h h' : Heap} {k : List Str} {b : Addr} {o : Obj} (x : TStr P w h k b) (ho : h.get? a = some o) (hd : o.data = .set es ep t) (but : Heap.SameBut a h h') : TStr P w h' k b := by
  obtain ⟨o2, its, n, h2, hc, d2, hi⟩ := x
  refine ⟨o2, its, n, (but.2 b fun e => ?_).trans h2, hc, d2, hi⟩
  rw [e, ho] at h2
  rw [← Option.some.inj h2, hd] at d2
  exact nomatch d2
/-- the entries taken out in another order -/
theorem rows_in {ord : List Nat} (row : es.toList = L.map fun p => (hS P w p.2, Value.ref p.1)) (hp : ord.Perm (List.range L.length)) :
    ∃ L2 : List (Addr × List Str), L2.Perm L ∧ (ord.filterMap fun i => es[i]?) = (L2.map fun p => (hS P w p.2, Value.ref p.1)) ∧ (L2.map fun p => hS P w p.2) = ord.map fun i => (es.map (·.1)).getD i 0 := by
  have ent : ∀ (i : Nat) p, L[i]? = some p → es[i]? = some (hS P w p.2, Value.ref p.1) := fun i p hp => by
    rw [← Array.getElem?_toList, row, List.getElem?_map, hp]
    rfl
  have all : ∀ l : List Nat, (∀ i ∈ l, i < L.length) → (l.filterMap fun i => es[i]?) = ((l.filterMap fun i => L[i]?).map fun p => (hS P w p.2, Value.ref p.1)) ∧ ((l.filterMap fun i => L[i]?).map fun p => hS P w p.2) = l.map fun i => (es.map (·.1)).getD i 0 := by
    intro l
    induction l with
    | nil => exact fun _ => ⟨rfl, rfl⟩
    | cons i l ih =>
      intro lt
      have il := lt i List.mem_cons_self
      obtain ⟨e1, e2⟩ := ih fun j hj => lt j (List.mem_cons_of_mem _ hj)
      have hi := List.getElem?_eq_getElem il
      have h1 := ent i _ hi
      have h2 : (es.map (·.1)).getD i 0 = hS P w (L[i]).2 := by
        rw [Array.getD_eq_getD_getElem?, Array.getElem?_map, h1]
        rfl
      rw [List.filterMap_cons_some h1, List.filterMap_cons_some hi, List.map_cons, List.map_cons, List.map_cons, e1, e2, h2]
      exact ⟨rfl, rfl⟩
  obtain ⟨e1, e2⟩ := all ord fun i hi => List.mem_range.mp (hp.mem_iff.mp hi)
  refine ⟨_, ?_, e1, e2⟩
  have whole : ∀ M : List (Addr × List Str), (List.range M.length).filterMap (fun i => M[i]?) = M := fun M => by
    refine List.ext_getElem? fun i => ?_
    have : (List.range M.length).filterMap (fun i => M[i]?) = M := by
      induction M with
      | nil => rfl
      | cons m M ih =>
        rw [List.length_cons, List.range_succ_eq_map, List.filterMap_cons_some (by rfl : (m :: M)[0]? = some m), List.filterMap_map]
        exact congrArg (m :: ·) ih
    rw [this]
  have q := hp.filterMap fun i => L[i]?
  rwa [whole L] at q
/-- laid anew in a larger table -/
theorem relay {o : Obj} (ho : s.heap.get? a = some o) (hex : o.ExactSet) (hd : o.data = .set es ep t) (row : es.toList = L.map fun p => (hS P w p.2, Value.ref p.1)) (pl : t.place.size = L.length) (dm : t.dummies = #[]) (fit : L.length ≤ t.mask) (one : (L.map (·.2)).Nodup)
    (are : ∀ p ∈ L, TStr P w s.heap p.2 p.1) (few : L.length < 64) {wanted M : Nat} (sz : SetTable.sizeAbove wanted - 1 = M) (mok : MaskOk M) (top : SetTable.sizeAbove wanted ≤ 128) (wide : L.length * 5 < M * 3) (hled : w.params.followText "set-order" = true ∨ t.led = true) {Q : Unit → Shared → Prop}
    (q : ∀ h' L' es' ep' t', Heap.SameBut a s.heap h' → Bag P w h' a L' es' ep' t' → L'.Perm L → Q () { s with heap := h' }) : wpAny (model P w) A (setRelay a wanted) Q E s := by
  have sl : es.size = L.length := by rw [← Array.length_toList, row, List.length_map]
  have fits : t.fits es.size = true := by
    unfold SetTable.fits SetTable.fill
    rw [dm, Bool.and_eq_true, beq_iff_eq, decide_eq_true_eq]
    refine ⟨by omega, ?_⟩
    show t.place.size + 0 ≤ t.mask
    omega
  obtain ⟨t', ord, laid, perm, T, em, eled, _, _⟩ := relaid_ok t (hs := es.map (·.1)) (wanted := wanted) sz mok (by rw [Array.size_map, sl]; omega)
  rw [Array.size_map, sl] at perm
  obtain ⟨L2, pm, r1, r2⟩ := rows_in row perm
  rw [← r2] at T
  have r3 : (ord.filterMap (es[·]?)).toList = L2.map fun p => (hS P w p.2, Value.ref p.1) := by rw [← r1]; simp
  have s2 : (ord.filterMap (es[·]?)).size = es.size := by rw [← Array.length_toList, r3, List.length_map, pm.length_eq, sl]
  have but : Heap.SameBut a s.heap (s.heap.update a (Obj.putSet (ord.filterMap (es[·]?)) t')) := Heap.SameBut.update ..
  rw [setRelay_eq]
  refine wpAny_bind (wpAny_setState_of ho hd fits ?_)
  dsimp only
  refine wp_if_neg (by rw [sizeLine_eq]; omega) ?_
  try refine wpAny_bind (wpAny_pure ?_)
  rw [laid]
  dsimp only
  refine wpAny_bind (wp_if_neg (by rw [s2]; simp) ?_)
  try refine wpAny_bind (wpAny_pure ?_)
  refine wpAny_pure ?_
  dsimp only
  exact wpAny_storeSet_of ho hd (q _ L2 _ (ep + 1) t' but ⟨⟨_, store_at ho hd, ⟨hex.1, hex.2.1, hex.2.2⟩, rfl⟩, r3, T, (pm.map (·.2)).nodup_iff.mpr one, fun p m => TStr.off (are p (pm.mem_iff.mp m)) ho hd but, by rw [pm.length_eq, em]; exact wide, by rw [pm.length_eq]; exact few, by rw [eled]; exact hled⟩ pm) (by rw [s2, sl, sizeLine_eq]; omega)
end
end OH
end
section
set_option Elab.async false
set_option linter.all false
set_option maxRecDepth 100000
set_option maxHeartbeats 4000000
/-! Sets of tuples of strings: adding one (the end). -/
namespace OH
open PySem PySem.Spec PyProof.Rows L2
section
variable {P : Program} {w : World} {A : Around} {E : Value → Shared → Prop} {s : Shared}
variable {a : Addr} {L : List (Addr × List Str)} {es : Array (Int × Value)} {ep : Nat} {t : SetTable}
theorem tab_plain {t : SetTable} {hs : List Int} (T : TabOk t hs) (b : Bool) : TabOk { t with plain := b } hs := ⟨T.ris, T.dm, T.sz, T.mok, T.bd, T.reach⟩
theorem into (L : List (Addr × List Str)) (i : Nat) (p : Addr × List Str) : (L.take i ++ p :: L.drop i).Perm (p :: L) := by
  have q : (L.take i ++ p :: L.drop i).Perm (p :: (L.take i ++ L.drop i)) := List.perm_middle
  rwa [List.take_append_drop] at q
theorem put_in (B : Bag P w s.heap a L es ep t) {x : Addr} {k : List Str} (hx : TStr P w s.heap k x) (hu : A.units < cLine) (few : L.length + 1 < 64) {Q : Bool → Shared → Prop}
    (q : ∀ b h' L' es' ep' t', Heap.SameBut a s.heap h' → Bag P w h' a L' es' ep' t' → (k ∈ L.map (·.2) → L' = L) → (k ∉ L.map (·.2) → L'.Perm ((x, k) :: L)) → Q b { s with heap := h' }) :
    wpAny (model P w) A (setAddHashed a (.ref x) (hS P w k)) Q E s := by
  obtain ⟨o, ho, hex, hd⟩ := B.obj
  have sl := B.es_size
  have wd := B.wide
  have pl := B.places
  unfold setAddHashed
  refine wpAny_holding ?_
  rw [show (100000 : Nat) = 99999 + 1 from rfl, setAddHashedIn_succ]
  refine wpAny_bind (wpAny_setState_of ho hd B.fits ?_)
  dsimp only
  refine wp_if_neg (by simp [byScan, Value.scannable]) ?_
  try refine wpAny_bind (wpAny_pure ?_)
  refine wpAny_bind (seek_all B hx hu (fun m => ?_) fun K nm hK hKb => ?_)
  · dsimp only
    exact wpAny_pure (q false s.heap L es ep t (Heap.SameBut.refl a s.heap) B (fun _ => rfl) fun n => absurd m n)
  dsimp only
  refine wpAny_bind (wpAny_setState_of ho hd B.fits ?_)
  dsimp only
  obtain ⟨e1, e2, T, e4, e5, _, _, _, e9⟩ := B.tab.put hK hKb
  generalize t.put (way t.mask (hS P w k) K) = pt at e1 T e4 e5 e9 ⊢
  obtain ⟨t1, i⟩ := pt
  dsimp only at e1 T e4 e5 e9 ⊢
  subst e1
  have row1 : (SetTable.insertAt es (SetTable.below t.place (way t.mask (hS P w k) K)) (hS P w k, Value.ref x)).toList = (L.take (SetTable.below t.place (way t.mask (hS P w k) K)) ++ (x, k) :: L.drop (SetTable.below t.place (way t.mask (hS P w k) K))).map fun p => (hS P w p.2, Value.ref p.1) := by
    rw [SetTable.toList_insertAt, B.row, List.map_append, List.map_cons, List.map_take, List.map_drop]
  generalize SetTable.below t.place (way t.mask (hS P w k) K) = i at e2 T row1 ⊢
  rw [show (L.map fun p => hS P w p.2).take i ++ hS P w k :: (L.map fun p => hS P w p.2).drop i = (L.take i ++ (x, k) :: L.drop i).map fun p => hS P w p.2 by
    rw [List.map_append, List.map_cons, List.map_take, List.map_drop]] at T
  have pm := into L i (x, k)
  generalize SetTable.insertAt es i (hS P w k, Value.ref x) = es1 at row1 ⊢
  generalize L.take i ++ (x, k) :: L.drop i = L1 at pm T row1
  have l1 : L1.length = L.length + 1 := pm.length_eq
  have s1 : es1.size = L.length + 1 := by rw [← Array.length_toList, row1, List.length_map, l1]
  have one1 : (L1.map (·.2)).Nodup := (pm.map (·.2)).nodup_iff.mpr (List.nodup_cons.mpr ⟨nm, B.one⟩)
  have both : ∀ b : Bool, wpAny (model P w) A (do
      storeSet a es1 (if b then t1 else { t1 with plain := false })
      if !false && (if b then t1 else { t1 with plain := false }).tooFull then setRelay a (SetTable.grown (es.size + 1))
      return true) Q E s := fun b => by
    have T1 : TabOk (if b then t1 else { t1 with plain := false }) (L1.map fun p => hS P w p.2) := by
      cases b
      · exact tab_plain T false
      · exact T
    have m1 : (if b then t1 else { t1 with plain := false }).mask = t.mask := by cases b <;> exact e4
    have d1 : w.params.followText "set-order" = true ∨ (if b then t1 else { t1 with plain := false }).led = true := by
      have q := B.led
      rw [← e5] at q
      cases b <;> exact q
    have f1 : (if b then t1 else { t1 with plain := false }).tooFull = decide ((L.length + 1) * 5 ≥ t.mask * 3) := by
      have g : t1.tooFull = decide ((L.length + 1) * 5 ≥ t.mask * 3) := by
        unfold SetTable.tooFull
        rw [e9, e4, List.length_map]
      cases b <;> exact g
    generalize (if b then t1 else { t1 with plain := false }) = t2 at T1 m1 f1 d1 ⊢
    have p1 : t2.place.size = L1.length := by rw [T1.sz, List.length_map]
    have but : Heap.SameBut a s.heap (s.heap.update a (Obj.putSet es1 t2)) := Heap.SameBut.update ..
    refine wpAny_bind (wpAny_storeSet_of ho hd ?_ (by rw [s1, sizeLine_eq]; omega))
    have ho1 := store_at (es' := es1) (t' := t2) ho hd
    generalize s.heap.update a (Obj.putSet es1 t2) = h1 at but ho1 ⊢
    have are1 : ∀ p ∈ L1, TStr P w h1 p.2 p.1 := fun p hp => by
      rcases List.mem_cons.mp (pm.mem_iff.mp hp) with e | hp
      · rw [e]
        exact TStr.off hx ho hd but
      · exact TStr.off (B.are p hp) ho hd but
    rcases Classical.em ((L.length + 1) * 5 ≥ t.mask * 3) with full | room
    · have where_ : (t.mask = 7 ∧ L.length = 4) ∨ (t.mask = 31 ∧ L.length = 18) := by
        rcases B.tab.mok with e | e | e <;> rw [e] at full wd
        · exact .inl ⟨e, by omega⟩
        · exact .inr ⟨e, by omega⟩
        · omega
      have go : ∀ M, SetTable.sizeAbove (SetTable.grown (es.size + 1)) - 1 = M → MaskOk M → SetTable.sizeAbove (SetTable.grown (es.size + 1)) ≤ 128 → (L.length + 1) * 5 < M * 3 →
          wpAny (model P w) A (setRelay a (SetTable.grown (es.size + 1))) (fun _ s' => wpAny (model P w) A (pure true) Q E s') E { s with heap := h1 } := fun M a1 a2 a3 a4 =>
        relay (s := { s with heap := h1 }) ho1 ⟨hex.1, hex.2.1, hex.2.2⟩ rfl row1 p1 T1.dm (by rw [l1, m1]; rcases where_ with ⟨y, z⟩ | ⟨y, z⟩ <;> omega) one1 are1 (by omega) a1 a2 a3 (by rw [l1]; exact a4) d1 fun h2 L2 es2 ep2 t3 but2 B2 pm2 =>
          wpAny_pure (q true h2 L2 es2 ep2 t3 (but.trans but2) B2 (fun m => absurd m nm) fun _ => pm2.trans pm)
      first
        | (refine wpAny_bind ?_; refine wp_if_pos (by rw [f1]; simpa using full) ?_)
        | (refine wp_if_pos (by rw [f1]; simpa using full) ?_; refine wpAny_bind ?_)
      rcases where_ with ⟨_, e⟩ | ⟨_, e⟩
      · exact go 31 (by rw [sl, e, size_20]) (.inr (.inl rfl)) (by rw [sl, e, size_20]; decide) (by omega)
      · exact go 127 (by rw [sl, e, size_76]) (.inr (.inr rfl)) (by rw [sl, e, size_76]; decide) (by omega)
    · first
        | refine wp_if_neg (by rw [f1]; simpa using room) ?_
        | (refine wpAny_bind ?_; refine wp_if_neg (by rw [f1]; simpa using room) ?_; refine wpAny_pure ?_)
      exact wpAny_pure (q true h1 L1 es1 (ep + 1) t2 but ⟨⟨_, ho1, ⟨hex.1, hex.2.1, hex.2.2⟩, rfl⟩, row1, T1, one1, are1, by rw [l1, m1]; omega, by omega, d1⟩ (fun m => absurd m nm) fun _ => pm)
  rcases Classical.em (t1.plain = true) with e | e
  · first
      | (refine wpAny_bind ?_; refine wp_if_pos e ?_; exact hbv_tstr hx both)
      | exact wp_if_pos e (wpAny_bind (hbv_tstr hx both))
  · first
      | (refine wpAny_bind ?_; refine wp_if_neg e ?_; exact wpAny_pure (both true))
      | exact wp_if_neg e (wpAny_bind (wpAny_pure (both true)))
      | exact wp_if_neg e (both true)
end
end OH
end
section
set_option Elab.async false
set_option linter.all false
set_option maxRecDepth 100000
set_option maxHeartbeats 4000000
/-! len(set(x)), x a list or a tuple of tuples of strings. -/
namespace OH
open PySem PySem.Spec PyProof.Rows L2
/-- L holds just what has come, and as many as have come exactly if these are unlike -/
structure Came (ks L : List (Addr × List Str)) : Prop where
  sub : ∀ p ∈ L, p ∈ ks
  le : L.length ≤ ks.length
  all : ∀ p ∈ ks, p.2 ∈ L.map (·.2)
  iff : L.length = ks.length ↔ (ks.map (·.2)).Nodup
theorem Came.nil : Came [] [] := ⟨fun p h => h, Nat.le_refl _, fun p h => (nomatch h), fun _ => List.nodup_nil, fun _ => rfl⟩
theorem nodup_end {α : Type} {ks : List α} {z : α} : (ks ++ [z]).Nodup ↔ ks.Nodup ∧ z ∉ ks := by
  rw [List.nodup_append]
  constructor
  · exact fun ⟨a, _, c⟩ => ⟨a, fun h => c z h z (List.mem_singleton.mpr rfl) rfl⟩
  · refine fun ⟨a, b⟩ => ⟨a, List.nodup_cons.mpr ⟨List.not_mem_nil, List.nodup_nil⟩, fun x hx y hy e => b ?_⟩
    rw [List.mem_singleton.mp hy] at e
    rwa [← e]
theorem Came.next {ks L L' : List (Addr × List Str)} {p : Addr × List Str} (c : Came ks L) (old : p.2 ∈ L.map (·.2) → L' = L) (new : p.2 ∉ L.map (·.2) → L'.Perm (p :: L)) : Came (ks ++ [p]) L' := by
  have back : p.2 ∈ L.map (·.2) ↔ p.2 ∈ ks.map (·.2) := by
    constructor
    · intro h
      obtain ⟨q, m, e⟩ := List.mem_map.mp h
      exact List.mem_map.mpr ⟨q, c.sub q m, e⟩
    · intro h
      obtain ⟨q, m, e⟩ := List.mem_map.mp h
      rw [← e]
      exact c.all q m
  have two : ((ks ++ [p]).map (·.2)).Nodup ↔ (ks.map (·.2)).Nodup ∧ p.2 ∉ ks.map (·.2) := by
    rw [List.map_append]
    exact nodup_end
  have len : (ks ++ [p]).length = ks.length + 1 := by rw [List.length_append]; rfl
  have cl := c.le
  rcases Classical.em (p.2 ∈ L.map (·.2)) with h | h
  · rw [old h]
    refine ⟨fun q m => List.mem_append_left _ (c.sub q m), by omega, fun q m => ?_, ?_⟩
    · rcases List.mem_append.mp m with m | m
      · exact c.all q m
      · rwa [List.mem_singleton.mp m]
    · rw [two, len]
      exact ⟨fun e => by omega, fun e => absurd (back.mp h) e.2⟩
  · have pm := new h
    have pl : L'.length = L.length + 1 := pm.length_eq
    have pk : ∀ z, z ∈ L'.map (·.2) ↔ z = p.2 ∨ z ∈ L.map (·.2) := fun z => by rw [(pm.map (·.2)).mem_iff, List.map_cons, List.mem_cons]
    refine ⟨fun q m => ?_, by omega, fun q m => ?_, ?_⟩
    · rcases List.mem_cons.mp (pm.mem_iff.mp m) with e | m
      · rw [e]
        exact List.mem_append_right _ (List.mem_singleton.mpr rfl)
      · exact List.mem_append_left _ (c.sub q m)
    · rw [pk]
      rcases List.mem_append.mp m with m | m
      · exact .inr (c.all q m)
      · rw [List.mem_singleton.mp m]
        exact .inl rfl
    · rw [two, len, pl]
      constructor
      · exact fun e => ⟨c.iff.mp (by omega), fun y => h (back.mpr y)⟩
      · exact fun ⟨e, _⟩ => by rw [c.iff.mpr e]
section
variable {P : Program} {w : World} {A : Around} {E : Value → Shared → Prop} {s : Shared}
theorem TStr.on {h h' : Heap} {k : List Str} {b : Addr} (x : TStr P w h k b) (kp : ∀ c o, h.get? c = some o → h'.get? c = some o) : TStr P w h' k b := by
  obtain ⟨o, its, n, ho, r⟩ := x
  exact ⟨o, its, n, kp _ _ ho, r⟩
theorem Bag.on {h h' : Heap} {a : Addr} {L : List (Addr × List Str)} {es : Array (Int × Value)} {ep : Nat} {t : SetTable} (B : Bag P w h a L es ep t) (ka : ∀ o, h.get? a = some o → h'.get? a = some o) (are : ∀ p ∈ L, TStr P w h' p.2 p.1) : Bag P w h' a L es ep t := by
  obtain ⟨⟨o, ho, r⟩, b, c, d, e, f, g, l⟩ := B
  exact ⟨⟨o, ka _ ho, r⟩, b, c, d, are, f, g, l⟩
theorem bag_new {h : Heap} {a : Addr} (ho : h.get? a = some (set0 w)) : Bag P w h a [] #[] 0 (.fresh 0 0 (!w.params.followText "set-order")) := by
  refine ⟨⟨_, ho, ⟨rfl, rfl, rfl⟩, rfl⟩, rfl, ?_, List.nodup_nil, fun p m => (nomatch m), by show 0 * 5 < 7 * 3; decide, by show 0 < 64; decide, by
    cases e : w.params.followText "set-order"
    · exact .inr rfl
    · exact .inl rfl⟩
  exact (setTR_fresh (P := P) (w := w) ho).tab
/-- all that has come so far stands in the set -/
def Soon (P : Program) (w : World) (h : Heap) (S : Addr) (ks : List (Addr × List Str)) : Prop := ∃ L es ep t, Bag P w h S L es ep t ∧ Came ks L
theorem fill_tups {I S : Addr} {fp wr : List Addr} {G : Array GenState → Array GenState → Prop} {n : Nat} {Pv : Nat → Value → Prop} {St : Nat → Shared → Prop} {R : Result → Shared → Prop} (h0 : Heap)
    (W : WalksS P w A.in1 I fp wr G n Pv St) (out : S ∉ fp) (ks : List (Addr × List Str)) (len : ks.length = n) (few : ∀ L : List (Addr × List Str), (L.map (·.2)).Nodup → (∀ p ∈ L, p ∈ ks) → L.length < ks.length → L.length + 1 < 64) (at_ : ∀ i v, Pv i v → ∃ p, ks[i]? = some p ∧ v = Value.ref p.1) (are : ∀ p ∈ ks, TStr P w h0 p.2 p.1) (hS0 : h0.get? S = none) (hw0 : ∀ b ∈ wr, h0.get? b = none) (hu : A.in1.units < cLine) :
    ∀ (tl hd : List (Addr × List Str)) (s : Shared), ks = hd ++ tl → St hd.length s → (∀ b o, h0.get? b = some o → s.heap.get? b = some o) → Soon P w s.heap S hd →
      (∀ s', Moved (S :: wr) G s s' → Soon P w s'.heap S ks → R (.ok (.ret .none)) s') → codeAny (model P w) A (.builtin "set.update.loop" ⟨[.ref S, .ref I], []⟩) R s
  | tl, hd, s, e, st, kp, ⟨L, es, ep, t, B, c⟩, fin => by
    have off : S ∉ wr := fun h => out (W.sub _ h)
    have kp2 : ∀ {s' : Shared}, Moved wr G s s' → ∀ b o, h0.get? b = some o → s'.heap.get? b = some o := fun mv b o q => mv.heap b o (fun hb => by rw [hw0 b hb] at q; cases q) (kp b o q)
    have sub : ∀ p ∈ L, p ∈ ks := fun p m => by
      rw [e]
      exact List.mem_append_left _ (c.sub p m)
    have B2 : ∀ {s' : Shared}, Moved wr G s s' → Bag P w s'.heap S L es ep t := fun mv => B.on (fun o q => mv.heap S o off q) fun p m => TStr.on (are p (sub p m)) (kp2 mv)
    refine codeAny_builtin F.entry_set_update_loop ?_
    rw [Around.under_plainId F.plain_set_update_loop _]
    show wpAny (model P w) A.in1 (pyNext (.ref I) >>= _) _ _ s
    match tl, e with
    | [], e =>
      rw [List.append_nil] at e
      subst e
      rw [len] at st
      refine wpAny_bind (W.done s _ _ st fun s' mv => ?_)
      show wpAny _ _ (ret Value.none) _ _ _
      exact wpAny_pure (fin s' (mv.mono fun b hb => List.mem_cons_of_mem _ hb) ⟨L, es, ep, t, B2 mv, c⟩)
    | p :: tl, e =>
      have sz : hd.length + (tl.length + 1) = n := by rw [← len, e, List.length_append]; rfl
      refine wpAny_bind (W.item hd.length s _ _ (by omega) st fun v s' pv st' mv => ?_)
      obtain ⟨p2, hz, rfl⟩ := at_ _ v pv
      rw [e, List.getElem?_append_right (Nat.le_refl _), Nat.sub_self] at hz
      obtain rfl : p = p2 := Option.some.inj hz
      have hx : TStr P w s'.heap p.2 p.1 := TStr.on (are p (by rw [e]; exact List.mem_append_right _ List.mem_cons_self)) (kp2 mv)
      show wpAny (model P w) A.in1 (holding [Value.ref p.1] (setAdd S (.ref p.1)) >>= _) _ _ s'
      refine wpAny_bind (wpAny_holding ?_)
      unfold setAdd
      refine wpAny_holding (wpAny_bind (wpAny_pyHash_tuple hu hx ?_))
      have cl := c.le
      have B1 := B2 mv
      refine put_in (s := { s' with toks := s'.toks + (p.2.length + 1) }) B1 hx hu (few L B.one sub (by omega)) fun b h' L2 es2 ep2 t2 but B3 old new => ?_
      have else_ : ∀ b o, b ≠ S → s'.heap.get? b = some o → h'.get? b = some o := fun b o ne q => (but.2 b ne).trans q
      refine wpAny_pure ⟨plainId_quiet F.plain_set_update_loop _, ?_⟩
      refine fill_tups h0 W out ks len few at_ are hS0 hw0 hu tl (hd ++ [p]) _ (by rw [e, List.append_assoc]; rfl) ?_ (fun b o q => else_ b o (fun y => by rw [y, hS0] at q; cases q) (kp2 mv b o q)) ⟨L2, es2, ep2, t2, B3, c.next old new⟩ fun s'' mv2 x4 => fin s'' (Moved.trans W.gtrans ((mv.mono fun b hb => List.mem_cons_of_mem _ hb).then_heap (Nat.le_add_right _ _) fun b o hb q => ?_) mv2) x4
      · rw [List.length_append]
        exact W.frame _ s' _ _ st' (Nat.le_add_right _ _) fun b hb o q => else_ b o (fun y => out (by rw [← y]; exact hb)) q
      · exact else_ b o (fun y => hb (by rw [y]; exact List.mem_cons_self)) q
termination_by tl => tl.length
end
end OH
end
section
set_option Elab.async false
set_option linter.all false
set_option maxRecDepth 100000
set_option maxHeartbeats 4000000
/-! len(set(x)), x a list or a tuple of tuples of strings (the end). -/
namespace OH
open PySem PySem.Spec PyProof.Rows L2
section
variable {P : Program} {w : World} {A : Around} {E : Value → Shared → Prop} {s : Shared}
theorem set_of_tstrs {l : Addr} {its : Array Value} (ks : List (Addr × List Str)) {Q : Value → Shared → Prop} (hh : A.handled = none) (ht : s.heap.IsTuple l its ∨ s.heap.IsList l its) (hi : its.toList = ks.map fun p => Value.ref p.1) (are : ∀ p ∈ ks, TStr P w s.heap p.2 p.1) (few : ∀ L : List (Addr × List Str), (L.map (·.2)).Nodup → (∀ p ∈ L, p ∈ ks) → L.length < ks.length → L.length + 1 < 64) (hu : A.units + 3 < cLine)
    (kk : ∀ (h' : Heap) (tk : Nat), Soon P w h' s.heap.objs.size ks → (∀ b o, s.heap.get? b = some o → h'.get? b = some o) → Q (.ref s.heap.objs.size) { s with heap := h', toks := tk }) :
    wpAny (model P w) A (call (.type "set") [.ref l]) Q E s := by
  have sz : its.size = ks.length := by rw [← Array.length_toList, hi, List.length_map]
  have fresh : ∀ b, s.heap.objs.size ≤ b → s.heap.get? b = none := fun b hb => by
    cases q : s.heap.get? b with
    | none => rfl
    | some o => exact absurd (Nat.lt_of_lt_of_le (Heap.lt_size q) hb) (Nat.lt_irrefl _)
  refine set_shell (M := fun h => Soon P w h s.heap.objs.size ks) hh ht (fun I io St R eI ne low W st fin => ?_) kk
  refine fill_tups s.heap W (fun z => ?_) ks sz.symm few (fun i v hv => ?_) are (fresh _ (Nat.le_refl _)) (fun b hb => fresh b ?_) hu ks [] _ rfl st (fun b o q => Heap.get?_push_of_some _ (Heap.get?_push_of_some _ q))
    ⟨[], #[], 0, _, bag_new (Heap.get?_push_of_some io (Heap.get?_push_size _ rfl)), Came.nil⟩ fin
  · rcases List.mem_cons.mp z with z | z
    · exact absurd (z.trans eI) (Nat.ne_of_lt (Nat.lt_succ_self _))
    · exact absurd (List.mem_singleton.mp z) (Nat.ne_of_gt low)
  · have q : its.toList[i]? = some v := by rw [Array.getElem?_toList]; exact hv
    rw [hi, List.getElem?_map] at q
    obtain ⟨p, e1, e2⟩ := Option.map_eq_some_iff.mp q
    exact ⟨p, e1, e2.symm⟩
  · rw [List.mem_singleton.mp hb, eI]
    exact Nat.le_succ _
end
theorem items_strs {P : Program} {w : World} : ∀ {k : List Str} {us : List Value}, Vals (k.map V.str) us → ItemsAre (strKind P w) k us
  | [], us, r => by
    cases r
    exact .nil
  | z :: k, us, r => by
    cases r with
    | cons r1 r2 =>
      obtain ⟨t, e⟩ : ∃ t, _ = Value.str z t := r1
      subst e
      exact .cons (strKind_is _ _ _ _) (items_strs r2)
theorem Inv.tstr {X : Cx} {pins : List (Addr × Obj)} {σ : L2.St} {H : Hp} {s : Shared} (I : Inv X pins σ H s) {b : Addr} {k : List Str} (h : SqT X.K H b (k.map V.str)) : TStr X.prog X.w s.heap k b := by
  obtain ⟨its, r, ⟨o, ho, hc, n, hd⟩, _⟩ := I.tuple h
  exact ⟨o, its.toArray, n, ho, hc, hd, by simpa using items_strs r⟩
theorem refs_at : ∀ {ks : List (Addr × List Str)} {us : List Value}, Vals (ks.map fun p => V.ref p.1) us → us = ks.map fun p => Value.ref p.1
  | [], us, r => by
    cases r
    rfl
  | p :: ks, us, r => by
    cases r with
    | cons r1 r2 =>
      have e : _ = Value.ref p.1 := r1
      rw [e, refs_at r2]
      rfl
/-- a tuple or a list of tuples of strings -/
def TupsAt (K : PySem.W.Frag) (H : Hp) (l : Addr) (ks : List (Addr × List Str)) : Prop := (SqT K H l (ks.map fun p => V.ref p.1) ∨ SqL K H l (ks.map fun p => V.ref p.1)) ∧ ∀ p ∈ ks, SqT K H p.1 (p.2.map V.str)
def tLenSetU (K : PySem.W.Frag) (ta : TE) : TE := fun σ H Q => ta σ H fun x H1 => ∃ (l : Addr) (ks : List (Addr × List Str)), x = .ref l ∧ TupsAt K H1 l ks ∧ ks.length < 64 ∧ ∀ n : Nat, (n = ks.length ↔ (ks.map (·.2)).Nodup) → Q (.int n) H1
theorem pe_lenSetU {X : Cx} {a : Expr} {ta : TE} {p p2 q pos : Pos} (hu : X.A.units + 64 < cLine) (hg : Gl X "len") (hm : X.mg "len" = none) (hg2 : Gl X "set") (hm2 : X.mg "set" = none) (ha : PE X a ta) (hc : X.calm = true := by rfl)
    (na : starEach [a] X.env = (false, eval a X.env) :: starEach [] X.env := by rfl) : PE X (.Call (.Name "len" p) [.Call (.Name "set" p2) [a] [] q] [] pos) (tLenSetU X.K ta) := by
  refine ⟨fun pins s σ H Q I h => ?_⟩
  refine Call_ (ld_blt I hg hm boot_len (PyProof.Rows.callWith_builtin1 (PyProof.Rows.args_cons ?_ rfl) rfl rfl))
  refine Call_ (ld_blt I hg2 hm2 boot_set (PyProof.Rows.callWith_type1 (PyProof.Rows.args_cons (thn (ha.run pins s σ H _ I h) fun v s1 ⟨x, H1, I1, r1, l, ks, ex, ⟨hq, hk⟩, hf, q1⟩ => PyProof.Rows.args_nil ?_) na) na rfl))
  subst ex
  cases r1
  obtain ⟨its, ht, r⟩ : ∃ its : Array Value, (s1.heap.IsTuple l its ∨ s1.heap.IsList l its) ∧ Vals (ks.map fun p => V.ref p.1) its.toList := by
    rcases hq with hq | hq
    · obtain ⟨its, r, pl, hz⟩ := I1.tuple hq
      exact ⟨its.toArray, .inl pl, by simpa using r⟩
    · obtain ⟨its, r, pl, hz⟩ := I1.list hq
      exact ⟨its.toArray, .inr pl.isList, by simpa using r⟩
  refine set_of_tstrs (P := X.prog) (w := X.w) ks (I1.ok.hd hc) ht (refs_at r) (fun p m => Inv.tstr I1 (hk p m)) (fun L _ _ h => by omega) (by omega) fun h' tk ⟨L, es, ep, t, B, c⟩ kp => ?_
  refine PyProof.Rows.args_nil ?_
  obtain ⟨o, ho, hex, hd⟩ := B.obj
  have I2 : Inv X pins σ H1 { s1 with heap := h', toks := tk } := I1.kept fun b o e => kp b o e
  have es1 : es.size = L.length := B.es_size (s := { s1 with heap := h', toks := tk })
  have le := c.le
  exact call_len_set ho hex hd (B.fits (s := { s1 with heap := h', toks := tk })) (by rw [es1]; omega) ⟨.int L.length, H1, I2.tok _, ⟨_, by rw [es1]⟩, q1 L.length c.iff⟩
end OH
end
section
set_option Elab.async false
set_option linter.all false
set_option maxRecDepth 100000
set_option maxHeartbeats 4000000
/-! Strings that are all unlike; lists of numbers. -/
namespace OH
open PySem PySem.Spec PyProof.Rows L2
/-- a whole number or a truth value compared with a truth value by `is` -/
theorem op_isB {X : Cx} : OpR X (compareOp .Is) (fun x y H Q => ∃ b : Bool, y = .bl b ∧ (((∃ i, x = .int i) ∧ Q (.bl false) H) ∨ ∃ c : Bool, x = .bl c ∧ Q (.bl (decide (c = b))) H)) := by
  intro pins s σ H x y v u Q I rx ry h
  obtain ⟨b, rfl, h⟩ := h
  rcases h with ⟨⟨i, rfl⟩, q⟩ | ⟨c, rfl, q⟩
  · obtain ⟨t, rfl⟩ := rx
    cases (show u = Value.bool b from ry)
    exact wpAny_is_other rfl (fun z => nomatch z) ⟨.bl false, H, I, rfl, q⟩
  · exact op_isBl pins s σ H _ _ v u Q I rx ry ⟨c, b, rfl, rfl, q⟩
def spNumsL : Sp := fun vs H Q _ => ∃ (a : Addr) (xs : List V), vs = [.ref a] ∧ H a = some (.lst xs) ∧ (∀ x ∈ xs, PlV H x) ∧ Q (.bl (xs.all (isW 0 9999))) H
/-- all unlike, for strings -/
def spUnlikeS : Sp := fun vs H Q _ => ∃ (l : Addr) (ks : List Str), vs = [.ref l] ∧ (H l = some (.tup (ks.map V.str)) ∨ H l = some (.lst (ks.map V.str))) ∧ ks.length < 4000 ∧ Q (.bl (decide ks.Nodup)) H
theorem nodup_short {α : Type} {ks : List α} (h : ks.length < 2) : ks.Nodup := by
  match ks, h with
  | [], _ => exact List.nodup_nil
  | [x], _ => exact List.nodup_cons.mpr ⟨List.not_mem_nil, List.nodup_nil⟩
section
variable {P : Program} {w : World} {K : PySem.W.Frag} {mg : Str → Option Value} {base : Heap}
theorem scNums : FnScope ["values", "one"] ["values"] (defScope s_are_numbers) := ⟨rfl, rfl, rfl, by decide +kernel, rfl, by decide +kernel, by decide +kernel⟩
theorem ok_numsL {f : Addr} {fd : FuncData} (F : Fun K "are_numbers" "are_numbers" s_are_numbers f fd) (T : Txt K mg) : FnOk P w K mg base CX0 1 f fd ["values"] spNumsL := by
  refine F.ok scNums (fun vs H Q E h => ?_) (fun cdv A outer s H vs Q E hr h => ?_)
  · obtain ⟨a, xs, rfl, _⟩ := h
    rfl
  · obtain ⟨a, xs, rfl, ha, hp, k⟩ := h
    have nd := scNums.nd
    obtain ⟨tm, hm⟩ := T.gMod
    refine ⟨_, pss_cons (ps_for PassesOwn.never rfl (pi_list (pv 0)) (pg_name (i := 1) nd rfl (Or.inl rfl))
        (pss_one (ps_if (PW.pt (pw_or (pt_not (pt_val (pe_callB call_isi (by rfl) T.nIsi (by decide +kernel) (pa_cons (pv 1) (pa_cons (pe_bltn (v := .ty "int") (by rfl) T.nInt (by decide +kernel) rfl) pa_nil)))))
          (pw_or (pt_cmpR op_isB (pv 1) pe_bl (nomark _)) (pw_or (pt_cmpR op_isB (pv 1) pe_bl (nomark _))
            (pw_or1 (pt_not (pt_chain op_le op_lt pe_int (pv 1) (pe_glob (v := .int 10000) rfl hm ⟨tm, rfl⟩)))))))) (pss_one (ps_ret pe_bl)) pss_nil)))
      (pss_one (ps_ret pe_bl)), ?_⟩
    refine ⟨_, rfl, a, rfl, ⟨_, SqL.of ha⟩, ?_⟩
    refine for_list (xs := xs) (fun i σ H' => ∃ o : Option V, σ = [some (.ref a), o] ∧ H' = H ∧ (xs.take i).all (isW 0 9999) = true) ⟨none, rfl, rfl, rfl⟩ (fun i σ H' _ ⟨o, _, e, _⟩ => by rw [e]; exact SqL.of ha) ?turn ?done
    case turn =>
      rintro i x σ H1 hx ⟨o, rfl, rfl, hall⟩
      have hpx := hp x (List.mem_of_getElem? hx)
      have bad : isW 0 9999 x = false → Q (.bl false) H1 := fun e => by
        have q : xs.all (isW 0 9999) = false := List.all_eq_false.mpr ⟨x, List.mem_of_getElem? hx, by rw [e]; exact Bool.false_ne_true⟩
        rw [q] at k
        exact k
      have good : isW 0 9999 x = true → (xs.take (i + 1)).all (isW 0 9999) = true := fun e => by
        rw [List.take_add_one, hx, List.all_append, hall]
        show (true && (isW 0 9999 x && true)) = true
        rw [e]
        rfl
      have off : ∀ {H2 : Hp}, H2 = H1 → isW 0 9999 x = true → ∃ o : Option V, ([some (V.ref a), some x] : L2.St) = [some (.ref a), o] ∧ H2 = H1 ∧ (xs.take (i + 1)).all (isW 0 9999) = true := fun e g => ⟨some x, rfl, e, good g⟩
      cases x with
      | int z =>
        refine ⟨_, rfl, _, _, _, _, _, rfl, .ty "int", .base (.int z), kit_ty (r := true) (by decide +kernel), _, rfl, iteF ?_⟩
        refine ⟨_, rfl, true, rfl, .inl ⟨⟨z, rfl⟩, _, rfl, iteF ?_⟩⟩
        refine ⟨_, rfl, false, rfl, .inl ⟨⟨z, rfl⟩, _, rfl, iteF ?_⟩⟩
        refine ⟨_, rfl, _, _, rfl, rfl, _, rfl, ?_⟩
        refine ite2 (fun h1 => ?_) (fun h1 => ?_)
        · refine ⟨_, _, rfl, rfl, _, rfl, ?_⟩
          have e : isW 0 9999 (.int z) = decide (z < 10000) := by
            show (decide (0 ≤ z) && decide (z ≤ 9999)) = _
            rw [h1, Bool.true_and]
            exact decide_eq_decide.mpr (by omega)
          cases h2 : decide (z < 10000) with
          | true =>
            rw [h2] at e
            exact iteF (off rfl e)
          | false =>
            rw [h2] at e
            exact iteT (bad e)
        · have e : isW 0 9999 (.int z) = false := by
            show (decide (0 ≤ z) && decide (z ≤ 9999)) = _
            rw [Bool.eq_false_iff.mpr h1, Bool.false_and]
          exact ⟨_, rfl, iteT (bad e)⟩
      | bl b =>
        refine ⟨_, rfl, _, _, _, _, _, rfl, .ty "int", .base (.bl b), kit_ty (r := true) (by decide +kernel), _, rfl, iteF ?_⟩
        refine ⟨_, rfl, true, rfl, .inr ⟨b, rfl, _, rfl, ?_⟩⟩
        cases b with
        | true => exact iteT (iteT (bad rfl))
        | false => exact iteF ⟨_, rfl, false, rfl, .inr ⟨false, rfl, _, rfl, iteT (iteT (bad rfl))⟩⟩
      | non => exact ⟨_, rfl, _, _, _, _, _, rfl, .ty "int", .base .non, kit_ty (r := false) (by decide +kernel), _, rfl, iteT (iteT (bad rfl))⟩
      | str y => exact ⟨_, rfl, _, _, _, _, _, rfl, .ty "int", .base (.str y), kit_ty (r := false) (by decide +kernel), _, rfl, iteT (iteT (bad rfl))⟩
      | ref y =>
        rcases hpx with ⟨ys, hy⟩ | ⟨ys, hy⟩
        · exact ⟨_, rfl, _, _, _, _, _, rfl, .ty "int", .base (.tup hy), kit_ty (r := false) (by decide +kernel), _, rfl, iteT (iteT (bad rfl))⟩
        · exact ⟨_, rfl, _, _, _, _, _, rfl, .ty "int", .base (.lst hy), kit_ty (r := false) (by decide +kernel), _, rfl, iteT (iteT (bad rfl))⟩
      | byt _ => exact hpx.elim
      | flt _ => exact hpx.elim
      | ty _ => exact hpx.elim
    case done =>
      rintro σ H1 ⟨o, rfl, rfl, hall⟩
      rw [List.take_length] at hall
      rw [hall] at k
      exact k
theorem sc_all_unlike : FnScope ["things"] ["things"] (defScope s_all_unlike) := ⟨rfl, rfl, rfl, by decide +kernel, rfl, by decide +kernel, by decide +kernel⟩
theorem ok_all_unlikeS {f : Addr} {fd : FuncData} (F : Fun K "all_unlike" "all_unlike" s_all_unlike f fd) (T : Txt K mg) (nSet : mg "set" = none) : FnOk P w K mg base CX0 1 f fd ["things"] spUnlikeS := by
  refine F.ok sc_all_unlike (fun vs H Q E h => ?_) (fun cdv A outer s H vs Q E hr h => ?_)
  · obtain ⟨l, ks, rfl, _⟩ := h
    rfl
  · obtain ⟨l, ks, rfl, hl, few, k⟩ := h
    have sq : StrsAt K H l ks := hl.elim (fun e => .inl (SqT.of e)) fun e => .inr (SqL.of e)
    refine ⟨_, pss_one (ps_ret (pe_or (pe_cmpR op_lt (pe_callB call_len_seq (by rfl) T.nLen PySem.boot_len (pa_cons (pv 0) pa_nil)) pe_int (nomark _))
      (pe_one (pe_cmpR op_eq (pe_lenSetS rfl T.nLen rfl nSet (pv 0)) (pe_callB call_len_seq (by rfl) T.nLen PySem.boot_len (pa_cons (pv 0) pa_nil)) (nomark _))))), ?_⟩
    refine ⟨_, rfl, l, _, rfl, sq.symm, _, _, rfl, rfl, ?_⟩
    rw [List.length_map]
    refine ⟨_, rfl, ite2 (fun few2 => ?_) (fun _ => ?_)⟩
    · rw [decide_eq_true (nodup_short (ks := ks) (by
        have q : (ks.length : Int) < 2 := by simpa using few2
        omega))] at k
      exact k
    refine ⟨_, rfl, l, ks, rfl, sq, few, fun n hn => ⟨_, rfl, l, _, rfl, sq.symm, rfl, ?_⟩⟩
    rw [List.length_map]
    have e : decide ((V.int (n : Int)) = V.int (ks.length : Int)) = decide ks.Nodup := decide_eq_decide.mpr ⟨fun y => hn.mp (by injection y with y; omega), fun nd => by rw [hn.mpr nd]⟩
    show Q (.bl (decide ((V.int (n : Int)) = V.int (ks.length : Int)))) H
    rw [e]
    exact k
end
end OH
end
section
set_option Elab.async false
set_option linter.all false
set_option maxRecDepth 100000
set_option maxHeartbeats 4000000
/-! Tuples of strings that are all unlike. -/
namespace OH
open PySem PySem.Spec PyProof.Rows L2
/-- the tuples of strings at l, as they stand in the heap -/
def TupsIn (H : Hp) (l : Addr) (ks : List (Addr × List Str)) : Prop := (H l = some (.tup (ks.map fun p => V.ref p.1)) ∨ H l = some (.lst (ks.map fun p => V.ref p.1))) ∧ ∀ p ∈ ks, H p.1 = some (.tup (p.2.map V.str))
theorem TupsIn.at {K : PySem.W.Frag} {H : Hp} {l : Addr} {ks : List (Addr × List Str)} (h : TupsIn H l ks) : TupsAt K H l ks := ⟨h.1.elim (fun e => .inl (SqT.of e)) fun e => .inr (SqL.of e), fun p m => SqT.of (h.2 p m)⟩
def spUnlikeT : Sp := fun vs H Q _ => ∃ (l : Addr) (ks : List (Addr × List Str)), vs = [.ref l] ∧ TupsIn H l ks ∧ ks.length < 64 ∧ Q (.bl (decide (ks.map (·.2)).Nodup)) H
section
variable {P : Program} {w : World} {K : PySem.W.Frag} {mg : Str → Option Value} {base : Heap}
theorem ok_all_unlikeT {f : Addr} {fd : FuncData} (F : Fun K "all_unlike" "all_unlike" s_all_unlike f fd) (T : Txt K mg) (nSet : mg "set" = none) : FnOk P w K mg base CX0 1 f fd ["things"] spUnlikeT := by
  refine F.ok sc_all_unlike (fun vs H Q E h => ?_) (fun cdv A outer s H vs Q E hr h => ?_)
  · obtain ⟨l, ks, rfl, _⟩ := h
    rfl
  · obtain ⟨l, ks, rfl, hl, few, k⟩ := h
    have tu : TupsAt K H l ks := hl.at
    refine ⟨_, pss_one (ps_ret (pe_or (pe_cmpR op_lt (pe_callB call_len_seq (by rfl) T.nLen PySem.boot_len (pa_cons (pv 0) pa_nil)) pe_int (nomark _))
      (pe_one (pe_cmpR op_eq (pe_lenSetU hr.units rfl T.nLen rfl nSet (pv 0)) (pe_callB call_len_seq (by rfl) T.nLen PySem.boot_len (pa_cons (pv 0) pa_nil)) (nomark _))))), ?_⟩
    refine ⟨_, rfl, l, _, rfl, tu.1.symm, _, _, rfl, rfl, ?_⟩
    rw [List.length_map]
    refine ⟨_, rfl, ite2 (fun few2 => ?_) (fun _ => ?_)⟩
    · rw [decide_eq_true (nodup_short (ks := ks.map (·.2)) (by
        have q : (ks.length : Int) < 2 := by simpa using few2
        rw [List.length_map]
        omega))] at k
      exact k
    refine ⟨_, rfl, l, ks, rfl, tu, few, fun n hn => ⟨_, rfl, l, _, rfl, tu.1.symm, rfl, ?_⟩⟩
    rw [List.length_map]
    have e : decide ((V.int (n : Int)) = V.int (ks.length : Int)) = decide (ks.map (·.2)).Nodup := decide_eq_decide.mpr ⟨fun y => hn.mp (by injection y with y; omega), fun nd => by rw [hn.mpr nd]⟩
    show Q (.bl (decide ((V.int (n : Int)) = V.int (ks.length : Int)))) H
    rw [e]
    exact k
end
end OH
end
section
set_option Elab.async false
set_option linter.all false
set_option maxRecDepth 100000
set_option maxHeartbeats 4000000
/-! Heads of doors. -/
namespace OH
open PySem PySem.Spec PyProof.Rows L2
theorem DA.kept {Z : Addr → Prop} {H H' : Hp} {nd : Addr} {n : Nat} {v : V} {d : PyData} (h : DA Z H v d) (c : Kept [nd] H H') (nm : NmAt H nd n) : DA Z H' v d := by
  obtain ⟨ks, e, _⟩ := nm
  refine h.ext (fun q xs hq => c q _ hq fun m => ?_) (fun q xs _ hq => c q _ hq fun m => ?_)
  · rw [List.mem_singleton.mp m, e] at hq
    cases hq
  · rw [List.mem_singleton.mp m, e] at hq
    cases hq
def doorHJ (d : PyData) : Bool := tupJ 4 4 d && (nameJ (nthD d 0) && (nameJ (nthD d 1) && wJ 1 10000 (nthD d 2)))
def spDoorH : Sp := fun vs H Q _ => ∃ (Z : Addr → Prop) (v : V) (d : PyData) (nd : Addr) (n : Nat), vs = [v, .ref nd] ∧ DA Z H v d ∧ NmAt H nd n ∧ n ≤ 900000 ∧ ∀ H', Kept [nd] H H' → NmAt H' nd (n + 2) → Q (.bl (doorHJ d)) H'
section
variable {P : Program} {w : World} {K : PySem.W.Frag} {mg : Str → Option Value} {base : Heap}
theorem sc_door_head : FnScope ["value", "names"] ["value", "names"] (defScope s_is_door_head) := ⟨rfl, rfl, rfl, by decide +kernel, rfl, by decide +kernel, by decide +kernel⟩
theorem ok_door_head {f : Addr} {fd : FuncData} (F : Fun K "is_door_head" "is_door_head" s_is_door_head f fd) (T : Txt K mg) (gS : ∃ t, mg "MOST_SIZE" = some (.int 10000 t))
    (DN : DefF P w K mg base CX0 2 "is_known_name" ["value", "names"] spKnown) (DW : DefF P w K mg base CX0 1 "is_whole" ["value", "low", "high"] spWhole) : FnOk P w K mg base CX0 3 f fd ["value", "names"] spDoorH := by
  refine F.ok sc_door_head (fun vs H Q E h => ?_) (fun cdv A outer s H vs Q E hr h => ?_)
  · obtain ⟨Z, v, d, nd, n, rfl, _⟩ := h
    rfl
  · obtain ⟨Z, v, d, nd, n, rfl, hv, hn, n9, k⟩ := h
    obtain ⟨tS, gS⟩ := gS
    have hr1 : Room 1 _ := hr.mono (by decide)
    refine ⟨_, pss_cons (ps_if (PW.pt (pw_or (pt_not (pt_val (pe_callB call_isi (by rfl) T.nIsi (by decide +kernel) (pa_cons (pv 0) (pa_cons (pe_bltn (v := .ty "tuple") (by rfl) T.nTuple (by decide +kernel) rfl) pa_nil)))))
        (pw_or1 (pt_cmpR op_ne (pe_callB call_len_seq (by rfl) T.nLen PySem.boot_len (pa_cons (pv 0) pa_nil)) pe_int (nomark _))))) (pss_one (ps_ret pe_bl)) pss_nil)
      (pss_cons (ps_if (PW.pt (pw_or (pt_not (pt_val (pe_cD DN hr rfl pass0 (pa_cons (pe_ix ix_tup (pv 0) pe_int (fun _ _ => rfl)) (pa_cons (pv 1) pa_nil)))))
        (pw_or1 (pt_not (pt_val (pe_cD DN hr rfl pass0 (pa_cons (pe_ix ix_tup (pv 0) pe_int (fun _ _ => rfl)) (pa_cons (pv 1) pa_nil)))))))) (pss_one (ps_ret pe_bl)) pss_nil)
      (pss_one (ps_ret (pe_cD DW hr1 rfl pass0 (pa_cons (pe_ix ix_tup (pv 0) pe_int (fun _ _ => rfl)) (pa_cons pe_int (pa_cons (pe_glob (v := .int 10000) rfl gS ⟨tS, rfl⟩) pa_nil))))))), ?_⟩
    have end0 : doorHJ d = false → Q (.bl false) H := fun e => by
      have q := k H Kept.refl (hn.le (by omega))
      rwa [e] at q
    cases hv with
    | non => exact ⟨_, rfl, _, _, _, _, _, rfl, .ty "tuple", .base .non, kit_ty (r := false) (by decide +kernel), _, rfl, iteT (iteT (end0 rfl))⟩
    | bl b => exact ⟨_, rfl, _, _, _, _, _, rfl, .ty "tuple", .base (.bl b), kit_ty (r := false) (by decide +kernel), _, rfl, iteT (iteT (end0 rfl))⟩
    | int i => exact ⟨_, rfl, _, _, _, _, _, rfl, .ty "tuple", .base (.int i), kit_ty (r := false) (by decide +kernel), _, rfl, iteT (iteT (end0 rfl))⟩
    | str z hz => exact ⟨_, rfl, _, _, _, _, _, rfl, .ty "tuple", .base (.str z), kit_ty (r := false) (by decide +kernel), _, rfl, iteT (iteT (end0 rfl))⟩
    | lst hx z hs => exact ⟨_, rfl, _, _, _, _, _, rfl, .ty "tuple", .base (.lst hx), kit_ty (r := false) (by decide +kernel), _, rfl, iteT (iteT (end0 rfl))⟩
    | tup hx hs =>
      rename_i a xs ds
      refine ⟨_, rfl, _, _, _, _, _, rfl, .ty "tuple", .base (.tup hx), kit_ty (r := true) (by decide +kernel), _, rfl, iteF ?_⟩
      refine ⟨_, rfl, a, xs, rfl, .inr (SqT.of hx), rfl, ?_⟩
      rcases Classical.em (ds.length = 4) with e4 | e4
      · obtain ⟨x, y, z, u, rfl⟩ : ∃ x y z u, ds = [x, y, z, u] := by
          match ds, e4 with
          | [x, y, z, u], _ => exact ⟨x, y, z, u, rfl⟩
        cases hs with
        | cons hx1 hs =>
        cases hs with
        | cons hx2 hs =>
        cases hs with
        | cons hx3 hs =>
        cases hs with
        | cons hx4 hs =>
        cases hs
        rename_i v1 v2 v3 v4
        have e0 : doorHJ (.tuple [x, y, z, u]) = (nameJ x && (nameJ y && wJ 1 10000 z)) := rfl
        rw [e0] at k end0
        refine ⟨_, rfl, ite2 (fun q => absurd q (by simp)) (fun _ => ?_)⟩
        refine ⟨_, rfl, a, _, 0, _, rfl, rfl, SqT.of hx, rfl, _, rfl, Z, v1, x, nd, n, rfl, hx1, hn, by omega, fun H1 c1 n1 => ?_⟩
        have hx' := c1 a _ hx fun m => by
          obtain ⟨ks, e, _⟩ := hn
          rw [List.mem_singleton.mp m, e] at hx
          cases hx
        cases hx1n : nameJ x with
        | false =>
          have q := k H1 c1 (n1.le (by omega))
          rw [hx1n] at q
          exact ⟨_, rfl, iteT (iteT q)⟩
        | true =>
        refine ⟨_, rfl, iteF ?_⟩
        refine ⟨_, rfl, a, _, 1, _, rfl, rfl, SqT.of hx', rfl, _, rfl, Z, v2, y, nd, n + 1, rfl, hx2.kept c1 hn, n1, by omega, fun H2 c2 n2 => ?_⟩
        have hx2' := c2 a _ hx' fun m => by
          obtain ⟨ks, e, _⟩ := n1
          rw [List.mem_singleton.mp m, e] at hx'
          cases hx'
        have q := k H2 (c1.trans c2) n2
        rw [hx1n, Bool.true_and] at q
        cases hx2n : nameJ y with
        | false =>
          rw [hx2n] at q
          exact ⟨_, rfl, iteT q⟩
        | true =>
        rw [hx2n, Bool.true_and] at q
        refine ⟨_, rfl, iteF ?_⟩
        refine ⟨_, rfl, a, _, 2, _, rfl, rfl, SqT.of hx2', rfl, v3, 1, 10000, rfl, ((hx3.kept c1 hn).kept c2 n1).plv, ?_⟩
        rw [((hx3.kept c1 hn).kept c2 n1).isW]
        exact q
      · have ne : xs.length ≠ 4 := fun e => e4 (by rw [← hs.len]; exact e)
        refine ⟨_, rfl, ite2 (fun _ => end0 ?_) (fun q => absurd (show (!decide (V.int (xs.length : Int) = V.int 4)) = true by
          rw [decide_eq_false (fun y => by injection y with y; omega)]
          rfl) q)⟩
        have e0 : doorHJ (.tuple ds) = ((decide ((4 : Int) ≤ (ds.length : Int)) && decide ((ds.length : Int) ≤ 4)) && (nameJ (nthD (.tuple ds) 0) && (nameJ (nthD (.tuple ds) 1) && wJ 1 10000 (nthD (.tuple ds) 2)))) := rfl
        rw [e0]
        rcases Nat.lt_or_ge ds.length 4 with l | l
        · rw [decide_eq_false (by omega)]
          rfl
        · rw [show decide ((ds.length : Int) ≤ 4) = false from decide_eq_false (by omega), Bool.and_false]
          rfl
end
end OH
end
section
set_option Elab.async false
set_option linter.all false
set_option maxRecDepth 100000
set_option maxHeartbeats 4000000
/-! Heads of functions. -/
namespace OH
open PySem PySem.Spec PyProof.Rows L2
def strD : PyData → Str
  | .str z => z
  | _ => ""
def funHJ (d : PyData) : Bool := tupJ 3 3 d && (nameJ (nthD d 0) && (tupJ 0 4 (nthD d 1) && ((itemsD (nthD d 1)).all nameJ && decide ((itemsD (nthD d 1)).map strD).Nodup)))
def spFunH : Sp := fun vs H Q _ => ∃ (Z : Addr → Prop) (v : V) (d : PyData) (nd : Addr) (n : Nat), vs = [v, .ref nd] ∧ DA Z H v d ∧ NmAt H nd n ∧ n ≤ 900000 ∧ ∀ H', Kept [nd] H H' → NmAt H' nd (n + 5) → Q (.bl (funHJ d)) H'
theorem names_strs {Z : Addr → Prop} {H : Hp} : ∀ {xs : List V} {ds : List PyData}, DAs Z H xs ds → ds.all nameJ = true → xs = (ds.map strD).map V.str
  | _, _, .nil, _ => rfl
  | _, _, .cons h hs, e => by
    rw [List.all_cons, Bool.and_eq_true] at e
    rw [List.map_cons, List.map_cons, ← names_strs hs e.2]
    cases h with
    | str z hz => rfl
    | _ => cases e.1
theorem NmAt.notT {H : Hp} {nd a : Addr} {n : Nat} {xs : List V} (nm : NmAt H nd n) (h : H a = some (.tup xs)) : a ∉ [nd] := fun m => by
  obtain ⟨ks, e, _⟩ := nm
  rw [List.mem_singleton.mp m, e] at h
  cases h
section
variable {P : Program} {w : World} {K : PySem.W.Frag} {mg : Str → Option Value} {base : Heap}
theorem sc_fun_head : FnScope ["value", "names", "param"] ["value", "names"] (defScope s_is_function_head) := ⟨rfl, rfl, rfl, by decide +kernel, rfl, by decide +kernel, by decide +kernel⟩
theorem ok_fun_head {f : Addr} {fd : FuncData} (F : Fun K "is_function_head" "is_function_head" s_is_function_head f fd) (T : Txt K mg) (gS : ∃ t, mg "MOST_PARAMS" = some (.int 4 t))
    (DN : DefF P w K mg base CX0 2 "is_known_name" ["value", "names"] spKnown) (DU : DefF P w K mg base CX0 1 "all_unlike" ["things"] spUnlikeS) : FnOk P w K mg base CX0 3 f fd ["value", "names"] spFunH := by
  refine F.ok sc_fun_head (fun vs H Q E h => ?_) (fun cdv A outer s H vs Q E hr h => ?_)
  · obtain ⟨Z, v, d, nd, n, rfl, _⟩ := h
    rfl
  · obtain ⟨Z, v, d, nd, n, rfl, hv, hn, n9, k⟩ := h
    obtain ⟨tS, gS⟩ := gS
    have nd0 := sc_fun_head.nd
    have hr1 : Room 1 _ := hr.mono (by decide)
    refine ⟨_, pss_cons (ps_if (PW.pt (pw_or (pt_not (pt_val (pe_callB call_isi (by rfl) T.nIsi (by decide +kernel) (pa_cons (pv 0) (pa_cons (pe_bltn (v := .ty "tuple") (by rfl) T.nTuple (by decide +kernel) rfl) pa_nil)))))
        (pw_or (pt_cmpR op_ne (pe_callB call_len_seq (by rfl) T.nLen PySem.boot_len (pa_cons (pv 0) pa_nil)) pe_int (nomark _))
        (pw_or1 (pt_not (pt_val (pe_cD DN hr rfl pass0 (pa_cons (pe_ix ix_tup (pv 0) pe_int (fun _ _ => rfl)) (pa_cons (pv 1) pa_nil))))))))) (pss_one (ps_ret pe_bl)) pss_nil)
      (pss_cons (ps_if (PW.pt (pw_or (pt_not (pt_val (pe_callB call_isi (by rfl) T.nIsi (by decide +kernel) (pa_cons (pe_ix ix_tup (pv 0) pe_int (fun _ _ => rfl)) (pa_cons (pe_bltn (v := .ty "tuple") (by rfl) T.nTuple (by decide +kernel) rfl) pa_nil)))))
        (pw_or1 (pt_cmpR op_gt (pe_callB call_len_seq (by rfl) T.nLen PySem.boot_len (pa_cons (pe_ix ix_tup (pv 0) pe_int (fun _ _ => rfl)) pa_nil)) (pe_glob (v := .int 4) rfl gS ⟨tS, rfl⟩) (by rfl))))) (pss_one (ps_ret pe_bl)) pss_nil)
      (pss_cons (ps_for PassesOwn.never rfl (pi_tup (pe_ix ix_tup (pv 0) pe_int (fun _ _ => rfl))) (pg_name (i := 2) nd0 rfl (Or.inl rfl))
        (pss_one (ps_if (pt_not (pt_val (pe_cD DN hr rfl pass0 (pa_cons (pv 2) (pa_cons (pv 1) pa_nil))))) (pss_one (ps_ret pe_bl)) pss_nil)))
      (pss_one (ps_ret (pe_cD DU hr1 rfl pass0 (pa_cons (pe_ix ix_tup (pv 0) pe_int (fun _ _ => rfl)) pa_nil)))))), ?_⟩
    have end0 : funHJ d = false → Q (.bl false) H := fun e => by
      have q := k H Kept.refl (hn.le (by omega))
      rwa [e] at q
    cases hv with
    | non => exact ⟨_, rfl, _, _, _, _, _, rfl, .ty "tuple", .base .non, kit_ty (r := false) (by decide +kernel), _, rfl, iteT (iteT (end0 rfl))⟩
    | bl b => exact ⟨_, rfl, _, _, _, _, _, rfl, .ty "tuple", .base (.bl b), kit_ty (r := false) (by decide +kernel), _, rfl, iteT (iteT (end0 rfl))⟩
    | int i => exact ⟨_, rfl, _, _, _, _, _, rfl, .ty "tuple", .base (.int i), kit_ty (r := false) (by decide +kernel), _, rfl, iteT (iteT (end0 rfl))⟩
    | str z hz => exact ⟨_, rfl, _, _, _, _, _, rfl, .ty "tuple", .base (.str z), kit_ty (r := false) (by decide +kernel), _, rfl, iteT (iteT (end0 rfl))⟩
    | lst hx z hs => exact ⟨_, rfl, _, _, _, _, _, rfl, .ty "tuple", .base (.lst hx), kit_ty (r := false) (by decide +kernel), _, rfl, iteT (iteT (end0 rfl))⟩
    | tup hx hs =>
      rename_i a xs ds
      refine ⟨_, rfl, _, _, _, _, _, rfl, .ty "tuple", .base (.tup hx), kit_ty (r := true) (by decide +kernel), _, rfl, iteF ?_⟩
      refine ⟨_, rfl, a, xs, rfl, .inr (SqT.of hx), rfl, ?_⟩
      rcases Classical.em (ds.length = 3) with e4 | e4
      · obtain ⟨x, y, z, rfl⟩ : ∃ x y z, ds = [x, y, z] := by
          match ds, e4 with
          | [x, y, z], _ => exact ⟨x, y, z, rfl⟩
        cases hs with
        | cons hx1 hs =>
        cases hs with
        | cons hx2 hs =>
        cases hs with
        | cons hx3 hs =>
        cases hs
        rename_i v1 v2 v3
        have e0 : funHJ (.tuple [x, y, z]) = (nameJ x && (tupJ 0 4 y && ((itemsD y).all nameJ && decide ((itemsD y).map strD).Nodup))) := rfl
        rw [e0] at k
        refine ⟨_, rfl, ite2 (fun q => absurd q (by simp)) (fun _ => ?_)⟩
        refine ⟨_, rfl, a, _, 0, _, rfl, rfl, SqT.of hx, rfl, _, rfl, Z, v1, x, nd, n, rfl, hx1, hn, by omega, fun H1 c1 n1 => ?_⟩
        have hx' := c1 a _ hx (hn.notT hx)
        cases hx1n : nameJ x with
        | false =>
          have q := k H1 c1 (n1.le (by omega))
          rw [hx1n] at q
          exact ⟨_, rfl, iteT q⟩
        | true =>
        rw [hx1n, Bool.true_and] at k
        refine ⟨_, rfl, iteF ?_⟩
        have end1 : tupJ 0 4 y = false → Q (.bl false) H1 := fun e => by
          have q := k H1 c1 (n1.le (by omega))
          rwa [e] at q
        have hy := hx2.kept c1 hn
        cases hy with
        | non => exact ⟨_, rfl, a, _, 1, _, rfl, rfl, SqT.of hx', rfl, _, _, _, _, _, rfl, .ty "tuple", .base .non, kit_ty (r := false) (by decide +kernel), _, rfl, iteT (iteT (end1 rfl))⟩
        | bl b => exact ⟨_, rfl, a, _, 1, _, rfl, rfl, SqT.of hx', rfl, _, _, _, _, _, rfl, .ty "tuple", .base (.bl b), kit_ty (r := false) (by decide +kernel), _, rfl, iteT (iteT (end1 rfl))⟩
        | int i => exact ⟨_, rfl, a, _, 1, _, rfl, rfl, SqT.of hx', rfl, _, _, _, _, _, rfl, .ty "tuple", .base (.int i), kit_ty (r := false) (by decide +kernel), _, rfl, iteT (iteT (end1 rfl))⟩
        | str z hz => exact ⟨_, rfl, a, _, 1, _, rfl, rfl, SqT.of hx', rfl, _, _, _, _, _, rfl, .ty "tuple", .base (.str z), kit_ty (r := false) (by decide +kernel), _, rfl, iteT (iteT (end1 rfl))⟩
        | lst hb z hs => exact ⟨_, rfl, a, _, 1, _, rfl, rfl, SqT.of hx', rfl, _, _, _, _, _, rfl, .ty "tuple", .base (.lst hb), kit_ty (r := false) (by decide +kernel), _, rfl, iteT (iteT (end1 rfl))⟩
        | @tup b ys es hb hbs =>
          refine ⟨_, rfl, a, _, 1, _, rfl, rfl, SqT.of hx', rfl, _, _, _, _, _, rfl, .ty "tuple", .base (.tup hb), kit_ty (r := true) (by decide +kernel), _, rfl, iteF ?_⟩
          refine ⟨_, rfl, a, _, 1, _, rfl, rfl, SqT.of hx', rfl, b, ys, rfl, .inr (SqT.of hb), _, _, rfl, rfl, _, rfl, ?_⟩
          have el := hbs.len
          have e5 : tupJ 0 4 (.tuple es) = decide (es.length ≤ 4) := by
            show (decide ((0 : Int) ≤ (es.length : Int)) && decide ((es.length : Int) ≤ 4)) = _
            rw [decide_eq_true (by omega), Bool.true_and]
            exact decide_eq_decide.mpr (by omega)
          refine ite2 (fun q => end1 ?_) (fun q => ?_)
          · have q2 : (ys.length : Int) > 4 := by simpa using q
            rw [e5]
            exact decide_eq_false (by omega)
          have l4 : es.length ≤ 4 := by
            have q2 : ¬ (ys.length : Int) > 4 := by simpa using q
            omega
          rw [e5, decide_eq_true l4, Bool.true_and] at k
          replace k : ∀ H', Kept [nd] H H' → NmAt H' nd (n + 5) → Q (.bl (es.all nameJ && decide (es.map strD).Nodup)) H' := k
          refine ⟨_, rfl, a, _, 1, _, rfl, rfl, SqT.of hx', rfl, b, rfl, ⟨_, SqT.of hb⟩, ?_⟩
          refine for_tup (xs := ys) (fun i σ H' => ∃ o : Option V, σ = [some (.ref a), some (.ref nd), o] ∧ Kept [nd] H1 H' ∧ NmAt H' nd (n + 1 + i) ∧ (es.take i).all nameJ = true) ⟨none, rfl, Kept.refl, n1, rfl⟩ (fun i σ H' _ ⟨o, _, c, _⟩ => SqT.of (c b _ hb (n1.notT hb))) ?turn ?done
          case turn =>
            rintro i u σ H2 hu ⟨o, rfl, c, nm, hall⟩
            obtain ⟨d, hd, hda⟩ := hbs.get hu
            have il := (List.getElem?_eq_some_iff.mp hu).1
            refine ⟨_, rfl, _, rfl, Z, u, d, nd, n + 1 + i, rfl, hda.kept c n1, nm, by omega, fun H3 c3 n3 => ?_⟩
            cases hn2 : nameJ d with
            | false =>
              have q := k H3 (c1.trans (c.trans c3)) (n3.le (by omega))
              rw [show es.all nameJ = false from List.all_eq_false.mpr ⟨d, List.mem_of_getElem? hd, by rw [hn2]; exact Bool.false_ne_true⟩] at q
              exact ⟨_, rfl, iteT q⟩
            | true =>
              refine ⟨_, rfl, iteF ⟨some u, rfl, c.trans c3, n3, ?_⟩⟩
              rw [List.take_add_one, hd, List.all_append, hall]
              show (true && (nameJ d && true)) = true
              rw [hn2]
              rfl
          case done =>
            rintro σ H2 ⟨o, rfl, c, nm, hall⟩
            rw [el, List.take_length] at hall
            have hb2 := c b _ hb (n1.notT hb)
            rw [names_strs hbs hall] at hb2
            have q := k H2 (c1.trans c) (nm.le (by omega))
            rw [hall, Bool.true_and] at q
            exact ⟨_, rfl, a, _, 1, _, rfl, rfl, SqT.of (c a _ hx' (n1.notT hx')), rfl, b, es.map strD, rfl, .inl hb2, by rw [List.length_map]; omega, q⟩
      · have ne : xs.length ≠ 3 := fun e => e4 (by rw [← hs.len]; exact e)
        refine ⟨_, rfl, ite2 (fun _ => iteT (end0 ?_)) (fun q => absurd (show (!decide (V.int (xs.length : Int) = V.int 3)) = true by
          rw [decide_eq_false (fun y => by injection y with y; omega)]
          rfl) q)⟩
        have e0 : funHJ (.tuple ds) = ((decide ((3 : Int) ≤ (ds.length : Int)) && decide ((ds.length : Int) ≤ 3)) && (nameJ (nthD (.tuple ds) 0) && (tupJ 0 4 (nthD (.tuple ds) 1) && ((itemsD (nthD (.tuple ds) 1)).all nameJ && decide ((itemsD (nthD (.tuple ds) 1)).map strD).Nodup)))) := rfl
        rw [e0]
        rcases Nat.lt_or_ge ds.length 3 with l | l
        · rw [decide_eq_false (by omega)]
          rfl
        · rw [show decide ((ds.length : Int) ≤ 3) = false from decide_eq_false (by omega), Bool.and_false]
          rfl
end
end OH
end
section
set_option Elab.async false
set_option linter.all false
set_option maxRecDepth 100000
set_option maxHeartbeats 4000000
/-! Any value beside strings. -/
namespace OH
open PySem PySem.Spec PyProof.Rows L2
def rEqS : R2 := fun x y H Q => ∃ z : Str, y = .str z ∧ PlV H x ∧ Q (.bl (decide (x = .str z))) H
def rInST (K : PySem.W.Frag) : R2 := fun x y H Q => ∃ (p : Addr) (ks : List Str), y = .ref p ∧ SqT K H p (ks.map V.str) ∧ PlV H x ∧ Q (.bl (ks.any fun k => decide (x = .str k))) H
section
variable {X : Cx}
theorem op_eqS (hu : X.A.units < cLine) : OpR X (compareOp .Eq) rEqS := by
  intro pins s σ H x y v u Q I rx ry h
  obtain ⟨z, rfl, hp, q⟩ := h
  cases x with
  | ref a =>
    cases (show v = Value.ref a from rx)
    obtain ⟨t, rfl⟩ := ry
    have q' : EP X pins σ Q (Value.bool false) s := ⟨.bl false, H, I, rfl, by rw [decide_eq_false (fun z => nomatch z)] at q; exact q⟩
    rcases hp with ⟨xs, hx⟩ | ⟨xs, hx⟩
    · obtain ⟨its, r, pl, hz⟩ := I.tuple (SqT.of hx)
      exact SeqAt.RcAt.tuple_str z t pl hu _ _ _ _ q'
    · obtain ⟨its, r, pl, hz⟩ := I.list (SqL.of hx)
      exact SeqAt.RcAt.list_str z t pl.isList hu _ _ _ _ q'
  | non => exact op_eq pins s σ H _ _ v u Q I rx ry ⟨rfl, q⟩
  | bl b => exact op_eq pins s σ H _ _ v u Q I rx ry ⟨rfl, q⟩
  | int b => exact op_eq pins s σ H _ _ v u Q I rx ry ⟨rfl, q⟩
  | str b => exact op_eq pins s σ H _ _ v u Q I rx ry ⟨rfl, q⟩
  | _ => exact hp.elim
def eqK (x : V) (u : Value) : Bool := match u with
  | .str z _ => decide (x = .str z)
  | _ => false
theorem eqAt_K {A : Around} {pins : List (Addr × Obj)} {σ : L2.St} {H : Hp} {s : Shared} (I : Inv X pins σ H s) (hu : A.units < cLine) {x : V} {v : Value} (rx : RelV x v) (hp : PlV H x) (k : Str) (t : Tok) : SeqAt.EqAt A s (.str k t) v (eqK x (.str k t)) := by
  cases x with
  | ref a =>
    cases (show v = Value.ref a from rx)
    have e : eqK (.ref a) (.str k t) = false := by
      exact decide_eq_false (p := V.ref a = V.str k) fun z => nomatch z
    rw [e]
    rcases hp with ⟨xs, hx⟩ | ⟨xs, hx⟩
    · obtain ⟨its, r, pl, hz⟩ := I.tuple (SqT.of hx)
      exact SeqAt.EqAt.str_tuple k t pl hu
    · obtain ⟨its, r, pl, hz⟩ := I.list (SqL.of hx)
      exact SeqAt.EqAt.str_list k t pl.isList hu
  | non => cases rx; exact SeqAt.EqAt.str_none k t
  | bl b => cases rx; exact SeqAt.EqAt.str_bool k t b
  | int b => obtain ⟨t', rfl⟩ := rx; exact SeqAt.EqAt.str_int k t b t'
  | str b =>
    obtain ⟨t', rfl⟩ := rx
    have e : eqK (.str b) (.str k t) = (k == b) := by
      show decide (V.str b = .str k) = _
      rw [dec_str, Bool.eq_iff_iff, beq_iff_eq, beq_iff_eq]
      exact eq_comm
    rw [e]
    exact SeqAt.EqAt.str_str k t b t'
  | _ => exact hp.elim
theorem any_eqK {x : V} : ∀ {ks : List Str} {us : List Value}, Vals (ks.map V.str) us → us.any (eqK x) = ks.any fun k => decide (x = .str k)
  | [], _, .nil => rfl
  | k :: ks, u :: us, .cons r t => by
    obtain ⟨t', rfl⟩ := r
    rw [List.any_cons, List.any_cons, any_eqK t]
    rfl
theorem strs_only {us : List Value} : ∀ {ks : List Str}, Vals (ks.map V.str) us → ∀ u ∈ us, ∃ k t, u = Value.str k t := by
  induction us with
  | nil => intro ks _ u hu; cases hu
  | cons w us ih =>
    intro ks r u hu
    match ks, r with
    | k :: ks, .cons r t =>
      rcases List.mem_cons.mp hu with rfl | hu
      · obtain ⟨t', rfl⟩ := r
        exact ⟨_, _, rfl⟩
      · exact ih t u hu
theorem op_inST (hu : X.A.units + 1 < cLine) : OpR X (compareOp .In) (rInST X.K) := by
  intro pins s σ H x y v u Q I rx ry h
  obtain ⟨p, ks, rfl, hq, hp, q⟩ := h
  cases ry
  obtain ⟨its, r, pl, hz⟩ := I.tuple hq
  refine SeqAt.in_tupleAt (eqK x) pl (fun w hw => ?_) ⟨.bl _, H, I, rfl, ?_⟩
  · obtain ⟨k, t, rfl⟩ := strs_only r w (by simpa using hw)
    exact eqAt_K I (by show X.A.units + 1 < cLine; omega) rx hp k t
  · rw [show its.toArray.any (eqK x) = its.any (eqK x) by simp, any_eqK r]
    exact q
end
end OH
end
section
set_option Elab.async false
set_option linter.all false
set_option maxRecDepth 100000
set_option maxHeartbeats 4000000
/-! Blocks. -/
namespace OH
open PySem PySem.Spec PyProof.Rows L2
def tyD : PyData → String
  | .none => "NoneType"
  | .bool _ => "bool"
  | .int _ => "int"
  | .str _ => "str"
  | .tuple _ => "tuple"
  | _ => "list"
def isTD : PyData → Bool
  | .tuple _ => true
  | _ => false
def isSD : PyData → Bool
  | .str _ => true
  | _ => false
theorem DA.ty {K : PySem.W.Frag} {Z : Addr → Prop} {H : Hp} {v : V} {d : PyData} (h : DA Z H v d) : TyX K H v (.type (tyD d)) := by
  cases h with
  | non => exact .base .non
  | bl b => exact .base (.bl b)
  | int i => exact .base (.int i)
  | str x => exact .base (.str x)
  | tup h _ => exact .base (.tup h)
  | lst h _ _ => exact .base (.lst h)
theorem kit_T (d : PyData) : kitB (tyD d) "tuple" = some (isTD d) := by
  cases d with
  | none => exact (by decide +kernel : kitB "NoneType" "tuple" = some false)
  | bool b => exact (by decide +kernel : kitB "bool" "tuple" = some false)
  | int i => exact (by decide +kernel : kitB "int" "tuple" = some false)
  | str x => exact (by decide +kernel : kitB "str" "tuple" = some false)
  | tuple x => exact (by decide +kernel : kitB "tuple" "tuple" = some true)
  | list x => exact (by decide +kernel : kitB "list" "tuple" = some false)
  | dict x => exact (by decide +kernel : kitB "list" "tuple" = some false)
theorem kit_S (d : PyData) : kitB (tyD d) "str" = some (isSD d) := by
  cases d with
  | none => exact (by decide +kernel : kitB "NoneType" "str" = some false)
  | bool b => exact (by decide +kernel : kitB "bool" "str" = some false)
  | int i => exact (by decide +kernel : kitB "int" "str" = some false)
  | str x => exact (by decide +kernel : kitB "str" "str" = some true)
  | tuple x => exact (by decide +kernel : kitB "tuple" "str" = some false)
  | list x => exact (by decide +kernel : kitB "list" "str" = some false)
  | dict x => exact (by decide +kernel : kitB "list" "str" = some false)
theorem DA.tupOf {Z : Addr → Prop} {H : Hp} {v : V} {d : PyData} (h : DA Z H v d) (e : isTD d = true) : ∃ a xs ds, v = .ref a ∧ d = .tuple ds ∧ H a = some (.tup xs) ∧ DAs Z H xs ds := by
  cases h with
  | tup h hs => exact ⟨_, _, _, rfl, rfl, h, hs⟩
  | _ => cases e
theorem DA.strOf {Z : Addr → Prop} {H : Hp} {v : V} {d : PyData} (h : DA Z H v d) (e : isSD d = true) : ∃ z, v = .str z ∧ d = .str z := by
  cases h with
  | str z hz => exact ⟨z, rfl, rfl⟩
  | _ => cases e
theorem tupJ_not {lo hi : Int} {d : PyData} (e : isTD d = false) : tupJ lo hi d = false := by
  cases d with
  | tuple ds => cases e
  | _ => rfl
theorem nameJ_not {d : PyData} (e : isSD d = false) : nameJ d = false := by
  cases d with
  | str ds => cases e
  | _ => rfl
theorem tupJ_len {n : Nat} {ds : List PyData} : tupJ (n : Int) (n : Int) (.tuple ds) = decide (ds.length = n) := by
  show (decide ((n : Int) ≤ (ds.length : Int)) && decide ((ds.length : Int) ≤ (n : Int))) = _
  rw [← Bool.decide_and]
  exact decide_eq_decide.mpr (by omega)
theorem tupJ_lens {a b : Nat} {ds : List PyData} : tupJ (a : Int) (b : Int) (.tuple ds) = decide (a ≤ ds.length ∧ ds.length ≤ b) := by
  show (decide ((a : Int) ≤ (ds.length : Int)) && decide ((ds.length : Int) ≤ (b : Int))) = _
  rw [← Bool.decide_and]
  exact decide_eq_decide.mpr (by omega)
theorem DAs.two {Z : Addr → Prop} {H : Hp} {xs : List V} {x y : PyData} (h : DAs Z H xs [x, y]) : ∃ v w, xs = [v, w] ∧ DA Z H v x ∧ DA Z H w y := by
  cases h with
  | cons a h => cases h with
    | cons b h => cases h; exact ⟨_, _, rfl, a, b⟩
def cellJ : PyData → Bool
  | .none => true
  | d => numJ d
def blockJ (d : PyData) : Bool := tupJ 2 2 d && (nameJ (nthD d 0) && (tupJ 1 400 (nthD d 1) && (itemsD (nthD d 1)).all cellJ))
def spBlock : Sp := fun vs H Q _ => ∃ (Z : Addr → Prop) (v : V) (d : PyData) (nd : Addr) (n : Nat), vs = [v, .ref nd] ∧ DA Z H v d ∧ NmAt H nd n ∧ n ≤ 900000 ∧ ∀ H', Kept [nd] H H' → NmAt H' nd (n + 1) → Q (.bl (blockJ d)) H'
theorem cells_all {Z : Addr → Prop} {H : Hp} : ∀ {xs : List V} {ds : List PyData}, DAs Z H xs ds → (xs.filter fun x => !decide (x = V.non)).all (isW 0 9999) = ds.all cellJ
  | _, _, .nil => rfl
  | _, _, .cons h hs => by
    rw [List.all_cons, ← cells_all hs]
    cases h with
    | non => rfl
    | int i => rfl
    | bl b => rfl
    | str x hx => rfl
    | lst h _ _ => rfl
    | tup h _ => rfl
section
variable {P : Program} {w : World} {K : PySem.W.Frag} {mg : Str → Option Value} {base : Heap}
abbrev nBlock : List Str := ["value", "names", "one"]
theorem sc_block : FnScope nBlock ["value", "names"] (defScope s_is_block) := ⟨rfl, rfl, rfl, by decide +kernel, rfl, by decide +kernel, by decide +kernel⟩
theorem ok_block {f : Addr} {fd : FuncData} (F : Fun K "is_block" "is_block" s_is_block f fd) (T : Txt K mg) (gV : ∃ t, mg "MOST_VALUES" = some (.int 400 t))
    (DN : DefF P w K mg base CX0 2 "is_known_name" ["value", "names"] spKnown) (DU : DefF P w K mg base CX0 1 "are_numbers" ["values"] spNumsL) : FnOk P w K mg base CX0 3 f fd ["value", "names"] spBlock := by
  refine F.ok sc_block (fun vs H Q E h => ?_) (fun cdv A outer s H vs Q E hr h => ?_)
  · obtain ⟨Z, v, d, nd, n, rfl, _⟩ := h
    rfl
  · obtain ⟨Z, v, d, nd, n, rfl, hv, hn, n9, k⟩ := h
    obtain ⟨tS, gS⟩ := gV
    have nd0 := sc_block.nd
    have hr1 : Room 1 _ := hr.mono (by decide)
    refine ⟨_, pss_cons (ps_if (PW.pt (pw_or (pt_not (pt_val (pe_callB call_isi (by rfl) T.nIsi (by decide +kernel) (pa_cons (pv 0) (pa_cons (pe_bltn (v := .ty "tuple") (by rfl) T.nTuple (by decide +kernel) rfl) pa_nil)))))
        (pw_or (pt_cmpR op_ne (pe_callB call_len_seq (by rfl) T.nLen PySem.boot_len (pa_cons (pv 0) pa_nil)) pe_int (nomark _))
        (pw_or1 (pt_not (pt_val (pe_cD DN hr rfl pass0 (pa_cons (pe_ix ix_tup (pv 0) pe_int (fun _ _ => rfl)) (pa_cons (pv 1) pa_nil))))))))) (pss_one (ps_ret pe_bl)) pss_nil)
      (pss_cons (ps_if (PW.pt (pw_or (pt_not (pt_val (pe_callB call_isi (by rfl) T.nIsi (by decide +kernel) (pa_cons (pe_ix ix_tup (pv 0) pe_int (fun _ _ => rfl)) (pa_cons (pe_bltn (v := .ty "tuple") (by rfl) T.nTuple (by decide +kernel) rfl) pa_nil)))))
        (pw_or1 (pt_not (pt_chain op_le op_le pe_int (pe_callB call_len_seq (by rfl) T.nLen PySem.boot_len (pa_cons (pe_ix ix_tup (pv 0) pe_int (fun _ _ => rfl)) pa_nil)) (pe_glob (v := .int 400) rfl gS ⟨tS, rfl⟩)))))) (pss_one (ps_ret pe_bl)) pss_nil)
      (pss_one (ps_ret (pe_cD DU hr1 rfl pass0 (pa_cons (pe_lc (own := [("one", 2)]) (g := gName 2) rfl nd0 (pi_tup (pe_ix ix_tup (pv 0) pe_int (fun _ _ => rfl)))
        (blkOk_by (own := [("one", 2)]) (N := nBlock) (sc := defScope s_is_block) (by decide +kernel)) (fun _ _ _ _ _ => pg_name (i := 2) nd0 rfl (Or.inl rfl)) (fun _ _ _ _ _ => pts_one (pt_cmpR op_notN (pv 2) pe_non (nomark _))) (fun _ _ _ _ _ => pv 2)) pa_nil))))), ?_⟩
    have end0 : blockJ d = false → Q (.bl false) H := fun e => by
      have q := k H Kept.refl (hn.le (by omega))
      rwa [e] at q
    refine ⟨_, rfl, _, _, _, _, _, rfl, .ty "tuple", hv.ty, kit_ty (kit_T d), _, rfl, ?_⟩
    cases et : isTD d with
    | false => exact iteT (iteT (end0 (by unfold blockJ; rw [tupJ_not et]; rfl)))
    | true =>
    obtain ⟨a, xs, ds, rfl, rfl, ha, hs⟩ := hv.tupOf et
    refine iteF ⟨_, rfl, a, xs, rfl, .inr (SqT.of ha), rfl, ?_⟩
    have ne0 : ds.length ≠ 2 → blockJ (.tuple ds) = false := fun e => by
      unfold blockJ
      rw [show tupJ 2 2 (.tuple ds) = decide (ds.length = 2) from tupJ_len (n := 2), decide_eq_false e]
      rfl
    rcases Classical.em (ds.length = 2) with e2 | e2
    · obtain ⟨x, y, rfl⟩ : ∃ x y, ds = [x, y] := by
        match ds, e2 with
        | [x, y], _ => exact ⟨x, y, rfl⟩
      obtain ⟨v1, v2, rfl, h1, h2⟩ := hs.two
      have e0 : blockJ (.tuple [x, y]) = (nameJ x && (tupJ 1 400 y && (itemsD y).all cellJ)) := rfl
      rw [e0] at k
      refine ⟨_, rfl, ite2 (fun q => absurd q (by simp)) (fun _ => ?_)⟩
      refine ⟨_, rfl, a, _, 0, _, rfl, rfl, SqT.of ha, rfl, _, rfl, Z, v1, x, nd, n, rfl, h1, hn, by omega, fun H1 c1 n1 => ?_⟩
      have hx' := c1 a _ ha (hn.notT ha)
      cases hx1n : nameJ x with
      | false =>
        have q := k H1 c1 n1
        rw [hx1n] at q
        exact ⟨_, rfl, iteT q⟩
      | true =>
      have k0 := k
      replace k := k H1 c1 n1
      rw [hx1n, Bool.true_and] at k k0
      refine ⟨_, rfl, iteF ?_⟩
      have hy := h2.kept c1 hn
      refine ⟨_, rfl, a, _, 1, _, rfl, rfl, SqT.of hx', rfl, _, _, _, _, _, rfl, .ty "tuple", hy.ty, kit_ty (kit_T y), _, rfl, ?_⟩
      cases ey : isTD y with
      | false =>
        rw [tupJ_not ey] at k
        exact iteT (iteT k)
      | true =>
      obtain ⟨b, ys, es, rfl, rfl, hb, hbs⟩ := hy.tupOf ey
      have el := hbs.len
      rw [show tupJ 1 400 (.tuple es) = decide (1 ≤ es.length ∧ es.length ≤ 400) from tupJ_lens (a := 1) (b := 400)] at k
      replace k : Q (.bl (decide (1 ≤ es.length ∧ es.length ≤ 400) && es.all cellJ)) H1 := k
      refine iteF ?_
      refine ⟨_, rfl, a, _, 1, _, rfl, rfl, SqT.of hx', rfl, b, ys, rfl, .inr (SqT.of hb), _, _, rfl, rfl, _, rfl, ?_⟩
      refine ite2 (fun q => ?_) (fun q => ?_)
      · have q1 : 1 ≤ es.length := by have := of_decide_eq_true q; omega
        refine ⟨_, _, rfl, rfl, _, rfl, ?_⟩
        cases q8 : decide ((ys.length : Int) ≤ 400) with
        | false =>
          rw [decide_eq_false (fun z => absurd q8 (by rw [decide_eq_true (by have := z.2; omega)]; exact fun z => nomatch z))] at k
          exact iteT k
        | true =>
        rw [decide_eq_true ⟨q1, by have := of_decide_eq_true q8; omega⟩, Bool.true_and] at k
        refine iteF ?_
        refine ⟨_, rfl, a, _, 1, _, rfl, rfl, SqT.of hx', rfl, b, rfl, ⟨_, SqT.of hb⟩, fun D nD => ?_⟩
        have ltb : ys.length ≤ 400 := by have := of_decide_eq_true q8; omega
        have sD : Same H1 (upd H1 D (.lst (ys.filter fun x => !decide (x = V.non)))) := sadd (Same.refl H1) nD
        refine lc_tup (xs := ys) (fun i H' => H' = upd H1 D (.lst ((ys.take i).filter fun x => !decide (x = V.non)))) rfl (fun i H' _ e => by rw [e]; exact SqT.of (sadd (Same.refl H1) nD b _ hb)) (fun i x H' hx e => ?_) (fun H' e => ?_)
        · subst e
          refine ⟨rfl, _, rfl, rfl, _, rfl, ?_⟩
          have et2 : ys.take (i + 1) = ys.take i ++ [x] := by rw [List.take_add_one, hx]; rfl
          by_cases z : x = V.non
          · subst z
            refine iteF ?_
            rw [et2, List.filter_append]
            show _ = upd H1 D (.lst (_ ++ []))
            rw [List.append_nil]
          · have zz : (!decide (x = V.non)) = true := by rw [decide_eq_false z]; rfl
            rw [zz]
            refine iteT ⟨_, rfl, _, upd_same, ?_, ?_⟩
            · have l1 := List.length_filter_le (fun x => !decide (x = V.non)) (ys.take i)
              have l2 : (ys.take i).length ≤ ys.length := by rw [List.length_take]; omega
              rw [sizeLine_eq]
              omega
            · rw [upd_upd, et2, List.filter_append]
              congr 2
              show _ = _ ++ List.filter _ [x]
              rw [List.filter_cons_of_pos (p := fun x => !decide (x = V.non)) zz]
              rfl
        · subst e
          rw [List.take_length]
          refine ⟨D, _, rfl, upd_same, fun x hx => ?_, ?_⟩
          · exact (hbs.plv x (List.mem_filter.mp hx).1).same sD
          · rw [cells_all hbs]
            have q := k0 _ (c1.same sD) (n1.same sD)
            rwa [show tupJ 1 400 (.tuple es) = decide (1 ≤ es.length ∧ es.length ≤ 400) from tupJ_lens (a := 1) (b := 400), decide_eq_true ⟨q1, by omega⟩, Bool.true_and] at q
      · have q1 : ¬ 1 ≤ es.length := fun y => q (decide_eq_true (by omega))
        rw [decide_eq_false (fun z => q1 z.1)] at k
        exact ⟨_, rfl, iteT k⟩
    · have ne : xs.length ≠ 2 := fun e => e2 (by rw [← hs.len]; exact e)
      exact ⟨_, rfl, ite2 (fun _ => iteT (end0 (ne0 e2))) (fun q => absurd (show (!decide (V.int (xs.length : Int) = V.int 2)) = true by
        rw [decide_eq_false (fun y => by injection y with y; omega)]
        rfl) q)⟩
end
end OH
end
section
set_option Elab.async false
set_option linter.all false
set_option maxRecDepth 100000
set_option maxHeartbeats 4000000
/-! The blocks and the imports of a room. -/
namespace OH
open PySem PySem.Spec PyProof.Rows L2
def nameB (d : PyData) : Str := strD (nthD d 0)
def blocksJ (d : PyData) : Bool := tupJ 0 6 d && ((itemsD d).all blockJ && decide ((itemsD d).map nameB).Nodup)
def isOwn (own : Str) : PyData → Bool
  | .str z => decide (z = own)
  | _ => false
def impJ (own : Str) (d : PyData) : Bool := tupJ 2 2 d && (!isOwn own (nthD d 0) && (nameJ (nthD d 0) && nameJ (nthD d 1)))
def pairS (d : PyData) : List Str := (itemsD d).map strD
def impsJ (own : Str) (d : PyData) : Bool := tupJ 0 8 d && ((itemsD d).all (impJ own) && decide ((itemsD d).map pairS).Nodup)
def spBlocks : Sp := fun vs H Q _ => ∃ (Z : Addr → Prop) (v : V) (d : PyData) (nd : Addr) (n : Nat), vs = [v, .ref nd] ∧ DA Z H v d ∧ NmAt H nd n ∧ n ≤ 800000 ∧ ∀ H', Kept [nd] H H' → NmAt H' nd (n + 6) → Q (.bl (blocksJ d)) H'
def spImps : Sp := fun vs H Q _ => ∃ (Z : Addr → Prop) (v : V) (d : PyData) (own : Str) (nd : Addr) (n : Nat), vs = [v, .str own, .ref nd] ∧ DA Z H v d ∧ NmAt H nd n ∧ n ≤ 900000 ∧ ∀ H', Kept [nd] H H' → NmAt H' nd (n + 16) → Q (.bl (impsJ own d)) H'
/-- the first items of some tuples with names ahead -/
theorem DAs.fst {Z : Addr → Prop} {H : Hp} {J : PyData → Bool} (hJ : ∀ d, J d = true → ∃ z ds, d = .tuple (.str z :: ds)) : ∀ {vs : List V} {ds : List PyData}, DAs Z H vs ds → ds.all J = true →
    ∀ {i : Nat} {v : V}, vs[i]? = some v → ∃ (a : Addr) (z : Str) (xs : List V) (es : List PyData), v = .ref a ∧ H a = some (.tup (.str z :: xs)) ∧ ds[i]? = some (.tuple (.str z :: es)) := by
  intro vs ds h e i v hv
  obtain ⟨d, hd, hda⟩ := h.get hv
  obtain ⟨z, es, rfl⟩ := hJ d (List.all_eq_true.mp e d (List.mem_of_getElem? hd))
  cases hda with
  | tup ha hs =>
    cases hs with
    | cons h1 hs =>
      cases h1
      exact ⟨_, z, _, _, rfl, ha, hd⟩
theorem nameJ_iff {d : PyData} (h : nameJ d = true) : ∃ z, d = .str z := by
  cases d with
  | str z => exact ⟨z, rfl⟩
  | _ => cases h
theorem blockJ_fst (d : PyData) (h : blockJ d = true) : ∃ z ds, d = .tuple (.str z :: ds) := by
  unfold blockJ at h
  rw [Bool.and_eq_true, Bool.and_eq_true] at h
  obtain ⟨h1, h2, _⟩ := h
  obtain ⟨ds, rfl, l1, l2⟩ := tupJ_iff h1
  match ds, l1, l2 with
  | [x, y], _, _ =>
    obtain ⟨z, e⟩ := nameJ_iff h2
    cases (show x = .str z from e)
    exact ⟨z, _, rfl⟩
theorem impJ_two {own : Str} {d : PyData} (h : impJ own d = true) : ∃ x y : Str, d = .tuple [.str x, .str y] ∧ x ≠ own := by
  unfold impJ at h
  rw [Bool.and_eq_true, Bool.and_eq_true, Bool.and_eq_true] at h
  obtain ⟨h1, h2, h3, h4⟩ := h
  obtain ⟨ds, rfl, l1, l2⟩ := tupJ_iff h1
  match ds, l1, l2 with
  | [x, y], _, _ =>
    obtain ⟨z, e⟩ := nameJ_iff h3
    obtain ⟨z2, e2⟩ := nameJ_iff h4
    cases (show x = .str z from e)
    cases (show y = .str z2 from e2)
    refine ⟨z, z2, rfl, fun q => ?_⟩
    have h2 : (!decide (z = own)) = true := h2
    rw [decide_eq_true q] at h2
    cases h2
theorem DAs.imps {Z : Addr → Prop} {H : Hp} {own : Str} : ∀ {xs : List V} {ds : List PyData}, DAs Z H xs ds → ds.all (impJ own) = true →
    ∃ ks : List (Addr × List Str), xs = ks.map (fun p => V.ref p.1) ∧ (∀ p ∈ ks, H p.1 = some (.tup (p.2.map V.str))) ∧ ks.map (·.2) = ds.map pairS
  | _, _, .nil, _ => ⟨[], rfl, (fun p hp => absurd hp List.not_mem_nil), rfl⟩
  | _, _, .cons h hs, e => by
    rw [List.all_cons, Bool.and_eq_true] at e
    obtain ⟨ks, rfl, h2, h3⟩ := DAs.imps hs e.2
    obtain ⟨x, y, rfl, _⟩ := impJ_two e.1
    obtain ⟨a, ys, rfl, ha, hys⟩ := h.tupE
    obtain ⟨v1, v2, rfl, g1, g2⟩ := hys.two
    cases g1
    cases g2
    refine ⟨(a, [x, y]) :: ks, rfl, fun p hp => ?_, ?_⟩
    · rcases List.mem_cons.mp hp with rfl | hp
      · exact ha
      · exact h2 p hp
    · rw [List.map_cons, List.map_cons, h3]
      rfl
section
variable {P : Program} {w : World} {K : PySem.W.Frag} {mg : Str → Option Value} {base : Heap}
abbrev nBlocks : List Str := ["value", "names", "block"]
theorem sc_blocks : FnScope nBlocks ["value", "names"] (defScope s_are_blocks) := ⟨rfl, rfl, rfl, by decide +kernel, rfl, by decide +kernel, by decide +kernel⟩
theorem ok_blocks {f : Addr} {fd : FuncData} (F : Fun K "are_blocks" "are_blocks" s_are_blocks f fd) (T : Txt K mg) (gV : ∃ t, mg "MOST_BLOCKS" = some (.int 6 t))
    (DT : DefF P w K mg base CX0 1 "is_tuple" ["value", "least", "most"] spTuple) (DB : DefF P w K mg base CX0 3 "is_block" ["value", "names"] spBlock) (DU : DefF P w K mg base CX0 1 "all_unlike" ["things"] spUnlikeS) : FnOk P w K mg base CX0 4 f fd ["value", "names"] spBlocks := by
  refine F.ok sc_blocks (fun vs H Q E h => ?_) (fun cdv A outer s H vs Q E hr h => ?_)
  · obtain ⟨Z, v, d, nd, n, rfl, _⟩ := h
    rfl
  · obtain ⟨Z, v, d, nd, n, rfl, hv, hn, n9, k⟩ := h
    obtain ⟨tS, gS⟩ := gV
    have nd0 := sc_blocks.nd
    have hr1 : Room 1 _ := hr.mono (by decide)
    refine ⟨_, pss_cons (ps_if (pt_not (pt_val (pe_cD DT hr1 rfl pass0 (pa_cons (pv 0) (pa_cons pe_int (pa_cons (pe_glob (v := .int 6) rfl gS ⟨tS, rfl⟩) pa_nil)))))) (pss_one (ps_ret pe_bl)) pss_nil)
      (pss_cons (ps_for PassesOwn.never rfl (pi_tup (pv 0)) (pg_name (i := 2) nd0 rfl (Or.inl rfl))
        (pss_one (ps_if (pt_not (pt_val (pe_cD DB hr rfl pass0 (pa_cons (pv 2) (pa_cons (pv 1) pa_nil))))) (pss_one (ps_ret pe_bl)) pss_nil)))
      (pss_one (ps_ret (pe_cD DU hr1 rfl pass0 (pa_cons (pe_lc (own := [("block", 2)]) (g := gName 2) (tt := tYes) (te := tOp (rIxT K) (tVar 2) (tC (.int 0))) rfl nd0 (pi_tup (pv 0))
        (blkOk_by (own := [("block", 2)]) (N := nBlocks) (sc := defScope s_are_blocks) (by decide +kernel)) (fun _ _ _ _ _ => pg_name (i := 2) nd0 rfl (Or.inl rfl)) (fun _ _ _ _ _ => pts_nil) (fun _ _ _ _ _ => pe_ix ix_tup (pv 2) pe_int (fun _ _ => rfl))) pa_nil))))), ?_⟩
    refine ⟨_, rfl, v, 0, 6, rfl, hv.plv, _, rfl, ?_⟩
    rw [hv.isT]
    have end0 : ∀ H', Kept [nd] H H' → NmAt H' nd (n + 6) → blocksJ d = false → Q (.bl false) H' := fun H' c nm e => by
      have q := k H' c nm
      rwa [e] at q
    cases et : tupJ 0 6 d with
    | false => exact iteT (end0 H Kept.refl (hn.le (by omega)) (by unfold blocksJ; rw [et]; rfl))
    | true =>
    obtain ⟨ds, rfl, l1, l2⟩ := tupJ_iff et
    obtain ⟨a, xs, rfl, ha, hs⟩ := hv.tupE
    have el := hs.len
    have e0 : blocksJ (.tuple ds) = (ds.all blockJ && decide (ds.map nameB).Nodup) := by
      unfold blocksJ
      rw [et]
      rfl
    rw [e0] at k end0
    refine iteF ⟨_, rfl, a, rfl, ⟨_, SqT.of ha⟩, ?_⟩
    refine for_tup (xs := xs) (fun i σ H' => ∃ o : Option V, σ = [some (.ref a), some (.ref nd), o] ∧ Kept [nd] H H' ∧ NmAt H' nd (n + i) ∧ (ds.take i).all blockJ = true) ⟨none, rfl, Kept.refl, hn, rfl⟩ (fun i σ H' _ ⟨o, _, c, _⟩ => SqT.of (c a _ ha (hn.notT ha))) ?turn ?done
    case turn =>
      rintro i u σ H2 hu ⟨o, rfl, c, nm, hall⟩
      obtain ⟨d, hd, hda⟩ := hs.get hu
      have il := (List.getElem?_eq_some_iff.mp hu).1
      refine ⟨_, rfl, _, rfl, Z, u, d, nd, n + i, rfl, hda.kept c hn, nm, by omega, fun H3 c3 n3 => ?_⟩
      cases hn2 : blockJ d with
      | false =>
        have q := end0 H3 (c.trans c3) (n3.le (by omega))
        rw [show ds.all blockJ = false from List.all_eq_false.mpr ⟨d, List.mem_of_getElem? hd, by rw [hn2]; exact Bool.false_ne_true⟩] at q
        exact ⟨_, rfl, iteT (q rfl)⟩
      | true =>
        refine ⟨_, rfl, iteF ⟨some u, rfl, c.trans c3, n3, ?_⟩⟩
        rw [List.take_add_one, hd, List.all_append, hall]
        show (true && (blockJ d && true)) = true
        rw [hn2]
        rfl
    case done =>
      rintro σ H2 ⟨o, rfl, c, nm, hall⟩
      rw [el, List.take_length] at hall
      rw [hall, Bool.true_and] at k
      have ha2 := c a _ ha (hn.notT ha)
      have fst : ∀ {i : Nat} {v : V}, xs[i]? = some v → _ := fun {i v} hv => DAs.fst blockJ_fst hs hall hv
      refine ⟨_, rfl, a, rfl, ⟨_, SqT.of ha2⟩, fun D nD => ?_⟩
      refine lc_tup (xs := xs) (fun i H' => H' = upd H2 D (.lst (((ds.take i).map nameB).map V.str))) rfl (fun i H' _ e => by rw [e]; exact SqT.of (sadd (Same.refl H2) nD a _ ha2)) (fun i x H' hx e => ?_) (fun H' e => ?_)
      · subst e
        obtain ⟨b, z, ys, es, rfl, hb, hd⟩ := fst hx
        have at0 : atI (V.str z :: ys) 0 = some (.str z) := atI_nat (j := 0) rfl
        have hb2 := sadd (o := .lst (((ds.take i).map nameB).map V.str)) (Same.refl H2) nD b _ (c b _ hb (hn.notT hb))
        have il := (List.getElem?_eq_some_iff.mp hx).1
        refine ⟨rfl, _, rfl, b, _, 0, _, rfl, rfl, SqT.of hb2, at0, _, upd_same, ?_, ?_⟩
        · rw [List.length_map, List.length_map, List.length_take, sizeLine_eq]
          omega
        · rw [upd_upd]
          have e3 : ds.take (i + 1) = ds.take i ++ [.tuple (.str z :: es)] := by rw [List.take_add_one, hd]; rfl
          rw [e3, List.map_append, List.map_append]
          rfl
      · subst e
        rw [el, List.take_length]
        refine ⟨D, ds.map nameB, rfl, .inr upd_same, by rw [List.length_map]; omega, k _ (c.new nD) ?_⟩
        exact (nm.le (by omega)).same (sadd (Same.refl H2) nD)
abbrev nImps : List Str := ["value", "own", "names", "pair"]
theorem sc_imports : FnScope nImps ["value", "own", "names"] (defScope s_are_imports) := ⟨rfl, rfl, rfl, by decide +kernel, rfl, by decide +kernel, by decide +kernel⟩
theorem ok_imports {f : Addr} {fd : FuncData} (F : Fun K "are_imports" "are_imports" s_are_imports f fd) (T : Txt K mg) (gV : ∃ t, mg "MOST_IMPORTS" = some (.int 8 t))
    (DT : DefF P w K mg base CX0 1 "is_tuple" ["value", "least", "most"] spTuple) (DN : DefF P w K mg base CX0 2 "is_known_name" ["value", "names"] spKnown) (DU : DefF P w K mg base CX0 1 "all_unlike" ["things"] spUnlikeT) : FnOk P w K mg base CX0 3 f fd ["value", "own", "names"] spImps := by
  refine F.ok sc_imports (fun vs H Q E h => ?_) (fun cdv A outer s H vs Q E hr h => ?_)
  · obtain ⟨Z, v, d, own, nd, n, rfl, _⟩ := h
    rfl
  · obtain ⟨Z, v, d, own, nd, n, rfl, hv, hn, n9, k⟩ := h
    obtain ⟨tS, gS⟩ := gV
    have nd0 := sc_imports.nd
    have hr1 : Room 1 _ := hr.mono (by decide)
    have hu := Room_u65 hr
    refine ⟨_, pss_cons (ps_if (pt_not (pt_val (pe_cD DT hr1 rfl pass0 (pa_cons (pv 0) (pa_cons pe_int (pa_cons (pe_glob (v := .int 8) rfl gS ⟨tS, rfl⟩) pa_nil)))))) (pss_one (ps_ret pe_bl)) pss_nil)
      (pss_cons (ps_for PassesOwn.never rfl (pi_tup (pv 0)) (pg_name (i := 3) nd0 rfl (Or.inl rfl))
        (pss_cons (ps_if (PW.pt (pw_or (pt_not (pt_val (pe_callB call_isi (by rfl) T.nIsi (by decide +kernel) (pa_cons (pv 3) (pa_cons (pe_bltn (v := .ty "tuple") (by rfl) T.nTuple (by decide +kernel) rfl) pa_nil)))))
          (pw_or (pt_cmpR op_ne (pe_callB call_len_seq (by rfl) T.nLen PySem.boot_len (pa_cons (pv 3) pa_nil)) pe_int (nomark _))
          (pw_or1 (pt_cmpR (op_eqS (by exact Nat.lt_of_le_of_lt (Nat.le_add_right _ _) hu)) (pe_ix ix_tup (pv 3) pe_int (fun _ _ => rfl)) (pv 1) (nomark _)))))) (pss_one (ps_ret pe_bl)) pss_nil)
        (pss_one (ps_if (PW.pt (pw_or (pt_not (pt_val (pe_cD DN hr rfl pass0 (pa_cons (pe_ix ix_tup (pv 3) pe_int (fun _ _ => rfl)) (pa_cons (pv 2) pa_nil)))))
          (pw_or1 (pt_not (pt_val (pe_cD DN hr rfl pass0 (pa_cons (pe_ix ix_tup (pv 3) pe_int (fun _ _ => rfl)) (pa_cons (pv 2) pa_nil)))))))) (pss_one (ps_ret pe_bl)) pss_nil))))
      (pss_one (ps_ret (pe_cD DU hr1 rfl pass0 (pa_cons (pv 0) pa_nil))))), ?_⟩
    refine ⟨_, rfl, v, 0, 8, rfl, hv.plv, _, rfl, ?_⟩
    rw [hv.isT]
    have end0 : ∀ H', Kept [nd] H H' → NmAt H' nd (n + 16) → impsJ own d = false → Q (.bl false) H' := fun H' c nm e => by
      have q := k H' c nm
      rwa [e] at q
    cases et : tupJ 0 8 d with
    | false => exact iteT (end0 H Kept.refl (hn.le (by omega)) (by unfold impsJ; rw [et]; rfl))
    | true =>
    obtain ⟨ds, rfl, l1, l2⟩ := tupJ_iff et
    obtain ⟨a, xs, rfl, ha, hs⟩ := hv.tupE
    have el := hs.len
    have e0 : impsJ own (.tuple ds) = (ds.all (impJ own) && decide (ds.map pairS).Nodup) := by
      unfold impsJ
      rw [et]
      rfl
    rw [e0] at k end0
    refine iteF ⟨_, rfl, a, rfl, ⟨_, SqT.of ha⟩, ?_⟩
    refine for_tup (xs := xs) (fun i σ H' => ∃ o : Option V, σ = [some (.ref a), some (.str own), some (.ref nd), o] ∧ Kept [nd] H H' ∧ NmAt H' nd (n + 2 * i) ∧ (ds.take i).all (impJ own) = true) ⟨none, rfl, Kept.refl, hn, rfl⟩ (fun i σ H' _ ⟨o, _, c, _⟩ => SqT.of (c a _ ha (hn.notT ha))) ?turn ?done
    case turn =>
      rintro i u σ H2 hu ⟨o, rfl, c, nm, hall⟩
      obtain ⟨d, hd, hda⟩ := hs.get hu
      have il := (List.getElem?_eq_some_iff.mp hu).1
      have bad : impJ own d = false → ∀ H3, Kept [nd] H2 H3 → NmAt H3 nd (n + 16) → Q (.bl false) H3 := fun e H3 c3 n3 => by
        have q := end0 H3 (c.trans c3) n3
        rw [show ds.all (impJ own) = false from List.all_eq_false.mpr ⟨d, List.mem_of_getElem? hd, by rw [e]; exact Bool.false_ne_true⟩] at q
        exact q rfl
      have n16 := nm.le (n := n + 16) (by omega)
      have hd2 := hda.kept c hn
      refine ⟨_, rfl, _, _, _, _, _, rfl, .ty "tuple", hd2.ty, kit_ty (kit_T d), _, rfl, ?_⟩
      cases ey : isTD d with
      | false => exact iteT (iteT (bad (by unfold impJ; rw [tupJ_not ey]; rfl) H2 Kept.refl n16))
      | true =>
      obtain ⟨b, ys, es, rfl, rfl, hb, hbs⟩ := hd2.tupOf ey
      refine iteF ⟨_, rfl, b, ys, rfl, .inr (SqT.of hb), rfl, ?_⟩
      rcases Classical.em (es.length = 2) with e2 | e2
      · obtain ⟨x, y, rfl⟩ : ∃ x y, es = [x, y] := by
          match es, e2 with
          | [x, y], _ => exact ⟨x, y, rfl⟩
        obtain ⟨v1, v2, rfl, h1, h2⟩ := hbs.two
        have e1 : impJ own (.tuple [x, y]) = (!isOwn own x && (nameJ x && nameJ y)) := rfl
        rw [e1] at bad
        refine ⟨_, rfl, ite2 (fun q => absurd q (by simp)) (fun _ => ?_)⟩
        refine ⟨_, rfl, b, _, 0, _, rfl, rfl, SqT.of hb, rfl, _, rfl, own, rfl, h1.plv, ?_⟩
        have e4 : decide (v1 = V.str own) = isOwn own x := by
          cases h1 with
          | str z hz => exact decide_eq_decide.mpr ⟨fun q => by injection q, fun q => by rw [q]⟩
          | _ => exact decide_eq_false fun z => nomatch z
        rw [e4]
        refine ⟨_, rfl, ?_⟩
        cases eo : isOwn own x with
        | true =>
          rw [eo] at bad
          exact iteT (bad rfl H2 Kept.refl n16)
        | false =>
        rw [eo] at bad
        replace bad : (nameJ x && nameJ y) = false → ∀ H3, Kept [nd] H2 H3 → NmAt H3 nd (n + 16) → Q (.bl false) H3 := bad
        refine iteF ?_
        refine ⟨_, rfl, b, _, 0, _, rfl, rfl, SqT.of hb, rfl, _, rfl, Z, v1, x, nd, n + 2 * i, rfl, h1, nm, by omega, fun H3 c3 n3 => ?_⟩
        have hb3 := c3 b _ hb (nm.notT hb)
        cases hx1 : nameJ x with
        | false => exact ⟨_, rfl, iteT (iteT (bad (by rw [hx1]; rfl) H3 c3 (n3.le (by omega))))⟩
        | true =>
        refine ⟨_, rfl, iteF ?_⟩
        refine ⟨_, rfl, b, _, 1, _, rfl, rfl, SqT.of hb3, rfl, _, rfl, Z, v2, y, nd, n + 2 * i + 1, rfl, h2.kept c3 nm, n3, by omega, fun H4 c4 n4 => ?_⟩
        cases hx2 : nameJ y with
        | false => exact ⟨_, rfl, iteT (bad (by rw [hx1, hx2]; rfl) H4 (c3.trans c4) (n4.le (by omega)))⟩
        | true =>
        refine ⟨_, rfl, iteF ⟨some (.ref b), rfl, c.trans (c3.trans c4), n4.le (by omega), ?_⟩⟩
        rw [List.take_add_one, hd, List.all_append, hall]
        show (true && (impJ own (.tuple [x, y]) && true)) = true
        rw [e1, eo, hx1, hx2]
        rfl
      · have ne : ys.length ≠ 2 := fun e => e2 (by rw [← hbs.len]; exact e)
        refine ⟨_, rfl, ite2 (fun _ => iteT (bad ?_ H2 Kept.refl n16)) (fun q => absurd (show (!decide (V.int (ys.length : Int) = V.int 2)) = true by
          rw [decide_eq_false (fun y => by injection y with y; omega)]
          rfl) q)⟩
        unfold impJ
        rw [show tupJ 2 2 (.tuple es) = decide (es.length = 2) from tupJ_len (n := 2), decide_eq_false e2]
        rfl
    case done =>
      rintro σ H2 ⟨o, rfl, c, nm, hall⟩
      rw [el, List.take_length] at hall
      rw [hall, Bool.true_and] at k
      have ha2 := c a _ ha (hn.notT ha)
      obtain ⟨ks, rfl, t1, t2⟩ := hs.imps hall
      rw [← t2] at k
      refine ⟨_, rfl, a, ks, rfl, ⟨.inl ha2, fun p hp => ?_⟩, ?_, k H2 c (nm.le ?_)⟩
      · have h1 := t1 p hp
        exact c _ _ h1 (hn.notT h1)
      · rw [List.length_map] at el
        omega
      · omega
end
end OH
end
section
set_option Elab.async false
set_option linter.all false
set_option maxRecDepth 100000
set_option maxHeartbeats 4000000
/-! The heads of a room. -/
namespace OH
open PySem PySem.Spec PyProof.Rows L2
def headsJ (f d : PyData) : Bool := tupJ 0 6 f && (tupJ 1 6 d && ((itemsD f).all funHJ && ((itemsD d).all doorHJ && decide ((itemsD f ++ itemsD d).map nameB).Nodup)))
def spHeads : Sp := fun vs H Q _ => ∃ (Z : Addr → Prop) (v u : V) (f d : PyData) (nd : Addr) (n : Nat), vs = [v, u, .ref nd] ∧ DA Z H v f ∧ DA Z H u d ∧ NmAt H nd n ∧ n ≤ 800000 ∧ ∀ H', Kept [nd] H H' → NmAt H' nd (n + 42) → Q (.bl (headsJ f d)) H'
theorem funHJ_fst (d : PyData) (h : funHJ d = true) : ∃ z ds, d = .tuple (.str z :: ds) := by
  unfold funHJ at h
  rw [Bool.and_eq_true, Bool.and_eq_true] at h
  obtain ⟨h1, h2, _⟩ := h
  obtain ⟨ds, rfl, l1, l2⟩ := tupJ_iff h1
  match ds, l1, l2 with
  | x :: ds, _, _ =>
    obtain ⟨z, e⟩ := nameJ_iff h2
    cases (show x = .str z from e)
    exact ⟨z, _, rfl⟩
theorem doorHJ_fst (d : PyData) (h : doorHJ d = true) : ∃ z ds, d = .tuple (.str z :: ds) := by
  unfold doorHJ at h
  rw [Bool.and_eq_true, Bool.and_eq_true] at h
  obtain ⟨h1, h2, _⟩ := h
  obtain ⟨ds, rfl, l1, l2⟩ := tupJ_iff h1
  match ds, l1, l2 with
  | x :: ds, _, _ =>
    obtain ⟨z, e⟩ := nameJ_iff h2
    cases (show x = .str z from e)
    exact ⟨z, _, rfl⟩
theorem cutPH {A R : Addr → Hp → Prop} {G : Prop} (h1 : (∀ x y, A x y → R x y) → G) (h2 : ∀ x y, A x y → R x y) : G := h1 h2
theorem SqT.sm' {K : PySem.W.Frag} {H H' : Hp} {a : Addr} {xs : List V} (h : H a = some (.tup xs)) (e : Same H H') : SqT K H' a xs := SqT.of (e _ _ h)
section
variable {P : Program} {w : World} {K : PySem.W.Frag} {mg : Str → Option Value} {base : Heap}
abbrev nHeads : List Str := ["functions", "doors", "names", "function", "door", "part"]
theorem sc_heads : FnScope nHeads ["functions", "doors", "names"] (defScope s_are_heads) := ⟨rfl, rfl, rfl, by decide +kernel, rfl, by decide +kernel, by decide +kernel⟩
theorem ok_heads {f : Addr} {fd : FuncData} (F : Fun K "are_heads" "are_heads" s_are_heads f fd) (T : Txt K mg) (gF : ∃ t, mg "MOST_FUNCTIONS" = some (.int 6 t)) (gD : ∃ t, mg "MOST_DOORS" = some (.int 6 t))
    (DT : DefF P w K mg base CX0 1 "is_tuple" ["value", "least", "most"] spTuple) (DF : DefF P w K mg base CX0 3 "is_function_head" ["value", "names"] spFunH) (DD : DefF P w K mg base CX0 3 "is_door_head" ["value", "names"] spDoorH)
    (DU : DefF P w K mg base CX0 1 "all_unlike" ["things"] spUnlikeS) : FnOk P w K mg base CX0 4 f fd ["functions", "doors", "names"] spHeads := by
  refine F.ok sc_heads (fun vs H Q E h => ?_) (fun cdv A outer s H vs Q E hr h => ?_)
  · obtain ⟨Z, v, u, f, d, nd, n, rfl, _⟩ := h
    rfl
  · obtain ⟨Z, v, u, fu, d, nd, n, rfl, hv, hu, hn, n9, k⟩ := h
    obtain ⟨tF, gF⟩ := gF
    obtain ⟨tD, gD⟩ := gD
    have nd0 := sc_heads.nd
    have hr1 : Room 1 _ := hr.mono (by decide)
    refine ⟨_, pss_cons (ps_if (PW.pt (pw_or (pt_not (pt_val (pe_cD DT hr1 rfl pass0 (pa_cons (pv 0) (pa_cons pe_int (pa_cons (pe_glob (v := .int 6) rfl gF ⟨tF, rfl⟩) pa_nil))))))
        (pw_or1 (pt_not (pt_val (pe_cD DT hr1 rfl pass0 (pa_cons (pv 1) (pa_cons pe_int (pa_cons (pe_glob (v := .int 6) rfl gD ⟨tD, rfl⟩) pa_nil))))))))) (pss_one (ps_ret pe_bl)) pss_nil)
      (pss_cons (ps_for PassesOwn.never rfl (pi_tup (pv 0)) (pg_name (i := 3) nd0 rfl (Or.inl rfl))
        (pss_one (ps_if (pt_not (pt_val (pe_cD DF hr rfl pass0 (pa_cons (pv 3) (pa_cons (pv 2) pa_nil))))) (pss_one (ps_ret pe_bl)) pss_nil)))
      (pss_cons (ps_for PassesOwn.never rfl (pi_tup (pv 1)) (pg_name (i := 4) nd0 rfl (Or.inl rfl))
        (pss_one (ps_if (pt_not (pt_val (pe_cD DD hr rfl pass0 (pa_cons (pv 4) (pa_cons (pv 2) pa_nil))))) (pss_one (ps_ret pe_bl)) pss_nil)))
      (pss_one (ps_ret (pe_cD DU hr1 rfl pass0 (pa_cons (pe_lc (own := [("part", 5)]) (g := gName 5) (tt := tYes) (te := tOp (rIxT K) (tVar 5) (tC (.int 0))) rfl nd0 (pi_tup (pe_op op_catA (pv 0) (pv 1)))
        (blkOk_by (own := [("part", 5)]) (N := nHeads) (sc := defScope s_are_heads) (by decide +kernel)) (fun _ _ _ _ _ => pg_name (i := 5) nd0 rfl (Or.inl rfl)) (fun _ _ _ _ _ => pts_nil) (fun _ _ _ _ _ => pe_ix ix_tup (pv 5) pe_int (fun _ _ => rfl))) pa_nil)))))), ?_⟩
    refine ⟨_, rfl, v, 0, 6, rfl, hv.plv, _, rfl, ?_⟩
    rw [hv.isT]
    have end0 : ∀ H', Kept [nd] H H' → NmAt H' nd (n + 42) → headsJ fu d = false → Q (.bl false) H' := fun H' c nm e => by
      have q := k H' c nm
      rwa [e] at q
    have n42 := hn.le (n := n + 42) (by omega)
    cases et : tupJ 0 6 fu with
    | false => exact iteT (iteT (end0 H Kept.refl n42 (by unfold headsJ; rw [et]; rfl)))
    | true =>
    refine iteF ⟨_, rfl, u, 1, 6, rfl, hu.plv, _, rfl, ?_⟩
    rw [hu.isT]
    cases et2 : tupJ 1 6 d with
    | false => exact iteT (end0 H Kept.refl n42 (by unfold headsJ; rw [et, et2]; rfl))
    | true =>
    obtain ⟨fs, rfl, l1, l2⟩ := tupJ_iff et
    obtain ⟨a, xs, rfl, ha, hs⟩ := hv.tupE
    obtain ⟨ds, rfl, m1, m2⟩ := tupJ_iff et2
    obtain ⟨b, ys, rfl, hb, hbs⟩ := hu.tupE
    have el := hs.len
    have el2 := hbs.len
    have e0 : headsJ (.tuple fs) (.tuple ds) = (fs.all funHJ && (ds.all doorHJ && decide ((fs ++ ds).map nameB).Nodup)) := by
      unfold headsJ
      rw [et, et2]
      rfl
    rw [e0] at k end0
    refine iteF ⟨_, rfl, a, rfl, ⟨_, SqT.of ha⟩, ?_⟩
    refine for_tup (xs := xs) (fun i σ H' => ∃ o : Option V, σ = [some (.ref a), some (.ref b), some (.ref nd), o, none, none] ∧ Kept [nd] H H' ∧ NmAt H' nd (n + 5 * i) ∧ (fs.take i).all funHJ = true) ⟨none, rfl, Kept.refl, hn, rfl⟩ (fun i σ H' _ ⟨o, _, c, _⟩ => SqT.of (c a _ ha (hn.notT ha))) ?turn ?done
    case turn =>
      rintro i u σ H2 hu ⟨o, rfl, c, nm, hall⟩
      obtain ⟨d, hd, hda⟩ := hs.get hu
      have il := (List.getElem?_eq_some_iff.mp hu).1
      refine ⟨_, rfl, _, rfl, Z, u, d, nd, n + 5 * i, rfl, hda.kept c hn, nm, by omega, fun H3 c3 n3 => ?_⟩
      cases hn2 : funHJ d with
      | false =>
        have q := end0 H3 (c.trans c3) (n3.le (by omega))
        rw [show fs.all funHJ = false from List.all_eq_false.mpr ⟨d, List.mem_of_getElem? hd, by rw [hn2]; exact Bool.false_ne_true⟩] at q
        exact ⟨_, rfl, iteT (q rfl)⟩
      | true =>
        refine ⟨_, rfl, iteF ⟨some u, rfl, c.trans c3, n3, ?_⟩⟩
        rw [List.take_add_one, hd, List.all_append, hall]
        show (true && (funHJ d && true)) = true
        rw [hn2]
        rfl
    case done =>
    rintro σ H2 ⟨o, rfl, c, nm, hall⟩
    rw [el, List.take_length] at hall
    rw [hall, Bool.true_and] at k
    rw [hall, Bool.true_and] at end0
    have hb2 := c b _ hb (hn.notT hb)
    refine ⟨_, rfl, b, rfl, ⟨_, SqT.of hb2⟩, ?_⟩
    refine for_tup (xs := ys) (fun i σ H' => ∃ o2 : Option V, σ = [some (.ref a), some (.ref b), some (.ref nd), o, o2, none] ∧ Kept [nd] H H' ∧ NmAt H' nd (n + 5 * xs.length + 2 * i) ∧ (ds.take i).all doorHJ = true) ⟨none, rfl, c, nm, rfl⟩ (fun i σ H' _ ⟨o, _, c, _⟩ => SqT.of (c b _ hb (hn.notT hb))) ?turn ?done
    case turn =>
      rintro i u σ H3 hu ⟨o2, rfl, c3, nm3, hall2⟩
      obtain ⟨d, hd, hda⟩ := hbs.get hu
      have il := (List.getElem?_eq_some_iff.mp hu).1
      refine ⟨_, rfl, _, rfl, Z, u, d, nd, n + 5 * xs.length + 2 * i, rfl, hda.kept c3 hn, nm3, by omega, fun H4 c4 n4 => ?_⟩
      cases hn2 : doorHJ d with
      | false =>
        have q := end0 H4 (c3.trans c4) (n4.le (by omega))
        rw [show ds.all doorHJ = false from List.all_eq_false.mpr ⟨d, List.mem_of_getElem? hd, by rw [hn2]; exact Bool.false_ne_true⟩] at q
        exact ⟨_, rfl, iteT (q rfl)⟩
      | true =>
        refine ⟨_, rfl, iteF ⟨some u, rfl, c3.trans c4, n4, ?_⟩⟩
        rw [List.take_add_one, hd, List.all_append, hall2]
        show (true && (doorHJ d && true)) = true
        rw [hn2]
        rfl
    case done =>
    rintro σ H3 ⟨o2, rfl, c3, nm3, hall2⟩
    rw [el2, List.take_length] at hall2
    rw [hall2, Bool.true_and] at k
    have ha3 := c3 a _ ha (hn.notT ha)
    have hb3 := c3 b _ hb (hn.notT hb)
    have nl : (xs ++ ys).length ≤ 12 := by rw [List.length_append]; omega
    refine ⟨_, rfl, _, rfl, ?_⟩
    refine' cutPH (A := fun p H4 => Same H3 H4 ∧ H4 p = some (.tup (xs ++ ys))) (fun key => ?_) ?_
    rotate_left
    · refine ⟨a, b, xs, ys, rfl, rfl, SqT.of ha3, SqT.of hb3, (by rw [sizeLine_eq]; omega), ?_, ?_, ?_⟩
      rotate_left 2
      · intro _ _ p np
        have s4 := sadd (o := .tup (xs ++ ys)) (Same.refl H3) np
        have hp : upd H3 p (.tup (xs ++ ys)) p = some (.tup (xs ++ ys)) := upd_same
        generalize upd H3 p (.tup (xs ++ ys)) = H4 at s4 hp ⊢
        exact key p H4 ⟨s4, hp⟩
      · intro e
        exact key b H3 ⟨Same.refl H3, by rw [e]; exact hb3⟩
      · intro _ e
        rw [e] at el2
        exact absurd el2 (by show ¬ 0 = _; omega)
    rintro p H4 ⟨s4, hp⟩
    refine ⟨p, rfl, ⟨_, SqT.of hp⟩, fun D nD => ?_⟩
    have kk : Kept [nd] H H4 := c3.same s4
    have fst : ∀ {i : Nat} {v : V}, (xs ++ ys)[i]? = some v → ∃ (a : Addr) (z : Str) (zs : List V) (es : List PyData), v = .ref a ∧ H4 a = some (.tup (.str z :: zs)) ∧ (fs ++ ds)[i]? = some (.tuple (.str z :: es)) := fun {i v} hv => by
      rcases Nat.lt_or_ge i xs.length with l | l
      · rw [List.getElem?_append_left l] at hv
        obtain ⟨a1, z, zs, es, e1, e2, e3⟩ := DAs.fst funHJ_fst hs hall hv
        exact ⟨a1, z, zs, es, e1, kk _ _ e2 (hn.notT e2), by rw [List.getElem?_append_left (by omega)]; exact e3⟩
      · rw [List.getElem?_append_right l] at hv
        obtain ⟨a1, z, zs, es, e1, e2, e3⟩ := DAs.fst doorHJ_fst hbs hall2 hv
        exact ⟨a1, z, zs, es, e1, kk _ _ e2 (hn.notT e2), by rw [List.getElem?_append_right (by omega), ← el]; exact e3⟩
    have ea : (xs ++ ys).length = (fs ++ ds).length := by rw [List.length_append, List.length_append]; omega
    refine lc_tup (xs := xs ++ ys) (fun i H' => H' = upd H4 D (.lst ((((fs ++ ds).take i).map nameB).map V.str))) rfl (fun i H' _ e => by rw [e]; exact SqT.of (sadd (Same.refl H4) nD p _ hp)) (fun i x H' hx e => ?_) (fun H' e => ?_)
    · subst e
      obtain ⟨b1, z, zs, es, rfl, hb1, hd⟩ := fst hx
      have at0 : atI (V.str z :: zs) 0 = some (.str z) := atI_nat (j := 0) rfl
      have hb2 := sadd (o := .lst ((((fs ++ ds).take i).map nameB).map V.str)) (Same.refl H4) nD b1 _ hb1
      have il := (List.getElem?_eq_some_iff.mp hx).1
      refine ⟨rfl, _, rfl, b1, _, 0, _, rfl, rfl, SqT.of hb2, at0, _, upd_same, ?_, ?_⟩
      · rw [List.length_map, List.length_map, List.length_take, sizeLine_eq]
        omega
      · rw [upd_upd]
        have e3 : (fs ++ ds).take (i + 1) = (fs ++ ds).take i ++ [.tuple (.str z :: es)] := by rw [List.take_add_one, hd]; rfl
        rw [e3, List.map_append, List.map_append]
        rfl
    · subst e
      rw [ea, List.take_length]
      refine ⟨D, (fs ++ ds).map nameB, rfl, .inr upd_same, by rw [List.length_map]; omega, k _ (kk.new nD) ?_⟩
      exact (nm3.le (by omega)).same (s4.trans (sadd (Same.refl H4) nD))
end
end OH
end
section
set_option Elab.async false
set_option linter.all false
set_option maxRecDepth 100000
set_option maxHeartbeats 4000000
/-! What a body may name. -/
namespace OH
open PySem PySem.Spec PyProof.Rows L2
/-- imports, blocks, and functions with the numbers of their params -/
structure BCx where
  imps : List (Str × Str)
  blks : List Str
  pars : List (Str × Nat)
def bcf (ia ba nd pa : Addr) : List (Str × V) := [("imports", .ref ia), ("blocks", .ref ba), ("names", .ref nd), ("params", .ref pa)]
structure BcAt (CB : Addr) (H : Hp) (p d ia ba nd pa : Addr) (C : BCx) : Prop where
  hp : H p = some (.ins CB d (bcf ia ba nd pa))
  hi : ∃ kvs : List (List Key × V), H ia = some (.dT kvs) ∧ ∀ x y : Str, (valV kvs [Sum.inr x, Sum.inr y]).isSome = decide ((x, y) ∈ C.imps)
  hb : ∃ kvs : List (Key × V), H ba = some (.dK kvs) ∧ ∀ z : Str, (valV kvs (Sum.inr z)).isSome = decide (z ∈ C.blks)
  hq : ∃ kvs : List (Key × V), H pa = some (.dK kvs) ∧ kvs.length ≤ C.pars.length ∧ ∀ z : Str, valV kvs (Sum.inr z) = (C.pars.lookup z).map (fun (n : Nat) => V.int (n : Int))
  nb : ba ≠ nd
  nq : pa ≠ nd
  nbq : ba ≠ pa
structure TxB (K : PySem.W.Frag) (CB : Addr) : Prop where
  cl : Cls K CB
  nI : NoAttr K CB "imports"
  nB : NoAttr K CB "blocks"
  nN : NoAttr K CB "names"
  nP : NoAttr K CB "params"
theorem BcAt.kept {CB : Addr} {H H' : Hp} {p d ia ba nd pa : Addr} {C : BCx} {n : Nat} (h : BcAt CB H p d ia ba nd pa C) (c : Kept [nd] H H') (nm : NmAt H nd n) : BcAt CB H' p d ia ba nd pa C := by
  obtain ⟨ks, e, _⟩ := nm
  obtain ⟨ki, i1, i2⟩ := h.hi
  obtain ⟨kb, b1, b2⟩ := h.hb
  obtain ⟨kq, q1, q2⟩ := h.hq
  refine ⟨c _ _ h.hp fun m => ?_, ⟨ki, c _ _ i1 fun m => ?_, i2⟩, ⟨kb, c _ _ b1 fun m => h.nb (List.mem_singleton.mp m), b2⟩, ⟨kq, c _ _ q1 fun m => h.nq (List.mem_singleton.mp m), q2⟩, h.nb, h.nq, h.nbq⟩
  · have z := h.hp
    rw [List.mem_singleton.mp m, e] at z
    cases z
  · rw [List.mem_singleton.mp m, e] at i1
    cases i1
def blkB (C : BCx) : PyData → Bool
  | .str z => decide (z ∈ C.blks)
  | _ => false
def parB (C : BCx) : PyData → PyData → Bool
  | .str z, .tuple ds => match C.pars.lookup z with
    | some n => decide (ds.length = n)
    | none => false
  | _, _ => false
def impB (C : BCx) : PyData → PyData → Bool
  | .str x, .str y => decide ((x, y) ∈ C.imps)
  | _, _ => false
def spHasB (CB : Addr) : Sp := fun vs H Q _ => ∃ (Z : Addr → Prop) (p d ia ba nd pa : Addr) (C : BCx) (v : V) (x : PyData), vs = [.ref p, v] ∧ BcAt CB H p d ia ba nd pa C ∧ DA Z H v x ∧ Q (.bl (blkB C x)) H
def spHasP (CB : Addr) : Sp := fun vs H Q _ => ∃ (Z : Addr → Prop) (p d ia ba nd pa : Addr) (C : BCx) (v u : V) (x y : PyData), vs = [.ref p, v, u] ∧ BcAt CB H p d ia ba nd pa C ∧ DA Z H v x ∧ DA Z H u y ∧ Q (.bl (parB C x y)) H
def spHasI (CB : Addr) : Sp := fun vs H Q _ => ∃ (Z : Addr → Prop) (p d ia ba nd pa : Addr) (C : BCx) (v u : V) (x y : PyData), vs = [.ref p, v, u] ∧ BcAt CB H p d ia ba nd pa C ∧ DA Z H v x ∧ DA Z H u y ∧ ∀ H', Same H H' → Q (.bl (impB C x y)) H'
section
variable {P : Program} {w : World} {K : PySem.W.Frag} {mg : Str → Option Value} {base : Heap} {CB : Addr}
theorem sc_has_block : FnScope ["self", "value"] ["self", "value"] (defScope s_BodyCheck_has_block) := ⟨rfl, rfl, rfl, by decide +kernel, rfl, by decide +kernel, by decide +kernel⟩
theorem ok_has_block {f : Addr} {fd : FuncData} (F : Fun K "has_block" "BodyCheck.has_block" s_BodyCheck_has_block f fd) (T : Txt K mg) (B : TxB K CB) : FnOk P w K mg base CX0 1 f fd ["self", "value"] (spHasB CB) := by
  refine F.ok sc_has_block (fun vs H Q E h => ?_) (fun cdv A outer s H vs Q E hr h => ?_)
  · obtain ⟨Z, p, d, ia, ba, nd, pa, C, v, x, rfl, _⟩ := h
    rfl
  · obtain ⟨Z, p, d, ia, ba, nd, pa, C, v, x, rfl, hB, hv, k⟩ := h
    have hu := Room_u65 hr
    refine ⟨_, pss_one (ps_ret (pe_and (pe_callB call_isi (by rfl) T.nIsi (by decide +kernel) (pa_cons (pv 1) (pa_cons (pe_bltn (v := .ty "str") (by rfl) T.nStr (by decide +kernel) rfl) pa_nil)))
      (pe_one (pe_cmp (pc_din (Nat.lt_of_le_of_lt (Nat.add_le_add_left (by decide) _) hu) (pv 1) (pe_fld (pv 0) rfl)))))), ?_⟩
    refine ⟨_, rfl, _, _, _, _, _, rfl, .ty "str", hv.ty, kit_ty (kit_S x), _, rfl, ?_⟩
    cases e : isSD x with
    | false =>
      rw [show blkB C x = false by cases x <;> first | rfl | cases e] at k
      exact iteF k
    | true =>
    obtain ⟨z, rfl, rfl⟩ := hv.strOf e
    obtain ⟨kb, b1, b2⟩ := hB.hb
    refine iteT ⟨_, rfl, _, rfl, p, CB, d, _, _, rfl, hB.hp, B.cl, B.nB, rfl, ba, _, rfl, DGet.k (k := Sum.inr z) b1, ?_⟩
    rw [b2]
    exact k
theorem sc_has_params : FnScope ["self", "function", "arguments"] ["self", "function", "arguments"] (defScope s_BodyCheck_has_params) := ⟨rfl, rfl, rfl, by decide +kernel, rfl, by decide +kernel, by decide +kernel⟩
theorem ok_has_params {f : Addr} {fd : FuncData} (F : Fun K "has_params" "BodyCheck.has_params" s_BodyCheck_has_params f fd) (T : Txt K mg) (B : TxB K CB) : FnOk P w K mg base CX0 1 f fd ["self", "function", "arguments"] (spHasP CB) := by
  refine F.ok sc_has_params (fun vs H Q E h => ?_) (fun cdv A outer s H vs Q E hr h => ?_)
  · obtain ⟨Z, p, d, ia, ba, nd, pa, C, v, u, x, y, rfl, _⟩ := h
    rfl
  · obtain ⟨Z, p, d, ia, ba, nd, pa, C, v, u, x, y, rfl, hB, hv, hw, k⟩ := h
    have hu := Room_u65 hr
    have hu1 := Nat.lt_of_le_of_lt (Nat.add_le_add_left (show 1 ≤ 65 by decide) _) hu
    refine ⟨_, pss_cons (ps_if (PW.pt (pw_or (pt_not (pt_val (pe_callB call_isi (by rfl) T.nIsi (by decide +kernel) (pa_cons (pv 1) (pa_cons (pe_bltn (v := .ty "str") (by rfl) T.nStr (by decide +kernel) rfl) pa_nil)))))
        (pw_or1 (pt_cmp (pc_dnotin hu1 (pv 1) (pe_fld (pv 0) rfl)))))) (pss_one (ps_ret pe_bl)) pss_nil)
      (pss_one (ps_ret (pe_and (pe_callB call_isi (by rfl) T.nIsi (by decide +kernel) (pa_cons (pv 2) (pa_cons (pe_bltn (v := .ty "tuple") (by rfl) T.nTuple (by decide +kernel) rfl) pa_nil)))
        (pe_one (pe_cmpR op_eq (pe_callB call_len_seq (by rfl) T.nLen PySem.boot_len (pa_cons (pv 2) pa_nil)) (pe_dget hu1 (pe_fld (pv 0) rfl) (pv 1) (fun _ _ => rfl)) (nomark _)))))), ?_⟩
    refine ⟨_, rfl, _, _, _, _, _, rfl, .ty "str", hv.ty, kit_ty (kit_S x), _, rfl, ?_⟩
    cases e : isSD x with
    | false =>
      rw [show parB C x y = false by cases x <;> first | rfl | cases e] at k
      exact iteT (iteT k)
    | true =>
    obtain ⟨z, rfl, rfl⟩ := hv.strOf e
    obtain ⟨kq, q1, q2, q3⟩ := hB.hq
    refine iteF ⟨_, rfl, _, rfl, p, CB, d, _, _, rfl, hB.hp, B.cl, B.nP, rfl, pa, _, rfl, DGet.k (k := Sum.inr z) q1, _, rfl, ?_⟩
    have q4 := q3 z
    rw [q4]
    cases el : C.pars.lookup z with
    | none =>
      rw [show parB C (.str z) y = false by
        cases y with
        | tuple ds =>
          show (match C.pars.lookup z with | some n => decide (ds.length = n) | none => false) = false
          rw [el]
        | _ => rfl] at k
      exact iteT k
    | some m =>
    rw [el] at q4
    refine iteF ?_
    refine ⟨_, rfl, _, _, _, _, _, rfl, .ty "tuple", hw.ty, kit_ty (kit_T y), _, rfl, ?_⟩
    cases ey : isTD y with
    | false =>
      rw [show parB C (.str z) y = false by cases y <;> first | rfl | cases ey] at k
      exact iteF k
    | true =>
    obtain ⟨a, xs, ds, rfl, rfl, ha, hs⟩ := hw.tupOf ey
    refine iteT ⟨_, rfl, a, xs, rfl, .inr (SqT.of ha), _, rfl, p, CB, d, _, _, rfl, hB.hp, B.cl, B.nP, rfl, _, rfl, pa, _, rfl, (by have g := DGet.k (k := Sum.inr z) q1; rw [q4] at g; exact g), rfl, ?_⟩
    have e1 : parB C (.str z) (.tuple ds) = decide (ds.length = m) := by
      show (match C.pars.lookup z with | some n => decide (ds.length = n) | none => false) = _
      rw [el]
    rw [e1] at k
    have el2 := hs.len
    rw [show decide (V.int (xs.length : Int) = V.int (m : Int)) = decide (ds.length = m) from decide_eq_decide.mpr ⟨fun q => by injection q with q; omega, fun q => by rw [el2, q]⟩]
    exact k
theorem sc_has_import : FnScope ["self", "room", "door"] ["self", "room", "door"] (defScope s_BodyCheck_has_import) := ⟨rfl, rfl, rfl, by decide +kernel, rfl, by decide +kernel, by decide +kernel⟩
theorem ok_has_import {f : Addr} {fd : FuncData} (F : Fun K "has_import" "BodyCheck.has_import" s_BodyCheck_has_import f fd) (T : Txt K mg) (B : TxB K CB) : FnOk P w K mg base CX0 1 f fd ["self", "room", "door"] (spHasI CB) := by
  refine F.ok sc_has_import (fun vs H Q E h => ?_) (fun cdv A outer s H vs Q E hr h => ?_)
  · obtain ⟨Z, p, d, ia, ba, nd, pa, C, v, u, x, y, rfl, _⟩ := h
    rfl
  · obtain ⟨Z, p, d, ia, ba, nd, pa, C, v, u, x, y, rfl, hB, hv, hw, k⟩ := h
    have hu := Room_u65 hr
    have hu1 := Nat.lt_of_le_of_lt (Nat.add_le_add_left (show 1 ≤ 65 by decide) _) hu
    refine ⟨_, pss_one (ps_ret (pe_and (pe_callB call_isi (by rfl) T.nIsi (by decide +kernel) (pa_cons (pv 1) (pa_cons (pe_bltn (v := .ty "str") (by rfl) T.nStr (by decide +kernel) rfl) pa_nil)))
      (pe_and (pe_callB call_isi (by rfl) T.nIsi (by decide +kernel) (pa_cons (pv 2) (pa_cons (pe_bltn (v := .ty "str") (by rfl) T.nStr (by decide +kernel) rfl) pa_nil)))
      (pe_one (pe_cmp (pc_din hu1 (pe_tup (pa_cons (pv 1) (pa_cons (pv 2) pa_nil))) (pe_fld (pv 0) rfl))))))), ?_⟩
    refine ⟨_, rfl, _, _, _, _, _, rfl, .ty "str", hv.ty, kit_ty (kit_S x), _, rfl, ?_⟩
    cases e : isSD x with
    | false =>
      rw [show impB C x y = false by cases x <;> first | rfl | cases e] at k
      exact iteF (k H (Same.refl H))
    | true =>
    obtain ⟨z, rfl, rfl⟩ := hv.strOf e
    refine iteT ⟨_, rfl, _, _, _, _, _, rfl, .ty "str", hw.ty, kit_ty (kit_S y), _, rfl, ?_⟩
    cases ey : isSD y with
    | false =>
      rw [show impB C (.str z) y = false by cases y <;> first | rfl | cases ey] at k
      exact iteF (k H (Same.refl H))
    | true =>
    obtain ⟨z2, rfl, rfl⟩ := hw.strOf ey
    obtain ⟨ki, i1, i2⟩ := hB.hi
    refine iteT ⟨_, rfl, _, rfl, (by show 2 ≤ sizeLine; decide), fun t nt => ?_⟩
    have s1 := sadd (o := .tup [.str z, .str z2]) (Same.refl H) nt
    refine ⟨_, rfl, p, CB, d, _, _, rfl, s1 _ _ hB.hp, B.cl, B.nI, rfl, ia, _, rfl, DGet.t (k := [Sum.inr z, Sum.inr z2]) (s1 _ _ i1) upd_same, ?_⟩
    rw [i2]
    exact k _ s1
end
end OH
end
section
set_option Elab.async false
set_option linter.all false
set_option maxRecDepth 100000
set_option maxHeartbeats 4000000
/-! Expressions counted: in plain words. -/
namespace OH
open PySem PySem.Spec PyProof.Rows L2
theorem op_isntB {X : Cx} : OpR X (compareOp .IsNot) (fun x y H Q => ∃ b : Bool, y = .bl b ∧ (((∃ i, x = .int i) ∧ Q (.bl true) H) ∨ ∃ c : Bool, x = .bl c ∧ Q (.bl (!decide (c = b))) H)) := by
  intro pins s σ H x y v u Q I rx ry h
  obtain ⟨b, rfl, h⟩ := h
  rcases h with ⟨⟨i, rfl⟩, q⟩ | ⟨c, rfl, q⟩
  · obtain ⟨t, rfl⟩ := rx
    cases (show u = Value.bool b from ry)
    exact wpAny_isNot_other rfl (fun z => nomatch z) ⟨.bl true, H, I, rfl, q⟩
  · exact op_notBl pins s σ H _ _ v u Q I rx ry ⟨c, b, rfl, rfl, q⟩
def opsL : List Str := ["plus", "minus", "times", "rest", "less", "same"]
def isOps : PyData → Bool
  | .str z => opsL.any fun k => decide (z = k)
  | _ => false
def valStep (C : BCx) (rec : PyData → Int → Int) (v : PyData) (l : Int) : Int :=
  match v with
  | .tuple [w, t] => if isOwn "number" w then (if numJ t then l - 1 else -1) else if isOwn "local" w && nameJ t then l - 1 else -1
  | .tuple [w, a, b] => if l ≤ 0 then -1 else if isOps w then rec b (rec a (l - 1)) else if isOwn "cell" w && blkB C a then rec b (l - 1) else if isOwn "run" w && parB C a b then (itemsD b).foldl (fun l x => rec x l) (l - 1) else -1
  | .tuple [w, a, b, c] => if l ≤ 0 then -1 else if isOwn "ask" w && impB C a b then rec c (l - 1) else -1
  | _ => -1
def leftV (C : BCx) : Nat → PyData → Int → Int
  | 0, _, _ => -1
  | d + 1, v, l => valStep C (leftV C d) v l
theorem fold_le {f : Int → PyData → Int} (h : ∀ l x, (f l x).toNat ≤ l.toNat) : ∀ (xs : List PyData) (l : Int), (xs.foldl f l).toNat ≤ l.toNat
  | [], l => Nat.le_refl _
  | x :: xs, l => Nat.le_trans (fold_le h xs (f l x)) (h l x)
theorem sub1_le (l : Int) : (l - 1).toNat ≤ l.toNat := by omega
theorem neg1_le (l : Int) : (-1 : Int).toNat ≤ l.toNat := Nat.zero_le _
theorem valStep_le {C : BCx} {rec : PyData → Int → Int} (h : ∀ x l, (rec x l).toNat ≤ l.toNat) (v : PyData) (l : Int) : (valStep C rec v l).toNat ≤ l.toNat := by
  unfold valStep
  split
  · split
    · split
      · exact sub1_le l
      · exact neg1_le l
    · split
      · exact sub1_le l
      · exact neg1_le l
  · split
    · exact neg1_le l
    · split
      · exact Nat.le_trans (h _ _) (Nat.le_trans (h _ _) (sub1_le l))
      · split
        · exact Nat.le_trans (h _ _) (sub1_le l)
        · split
          · exact Nat.le_trans (fold_le (fun l x => h x l) _ _) (sub1_le l)
          · exact neg1_le l
  · split
    · exact neg1_le l
    · split
      · exact Nat.le_trans (h _ _) (sub1_le l)
      · exact neg1_le l
  · exact neg1_le l
theorem leftV_le (C : BCx) : ∀ (d : Nat) (v : PyData) (l : Int), (leftV C d v l).toNat ≤ l.toNat
  | 0, _, l => neg1_le l
  | d + 1, v, l => valStep_le (leftV_le C d) v l
theorem DA.own {Z : Addr → Prop} {H : Hp} {v : V} {d : PyData} (h : DA Z H v d) (own : Str) : decide (v = V.str own) = isOwn own d := by
  cases h with
  | str z hz => exact decide_eq_decide.mpr ⟨fun q => by injection q, fun q => by rw [q]⟩
  | _ => exact decide_eq_false fun z => nomatch z
def isID : PyData → Bool
  | .int _ => true
  | .bool _ => true
  | _ => false
theorem kit_I (d : PyData) : kitB (tyD d) "int" = some (isID d) := by
  cases d with
  | none => exact (by decide +kernel : kitB "NoneType" "int" = some false)
  | bool b => exact (by decide +kernel : kitB "bool" "int" = some true)
  | int i => exact (by decide +kernel : kitB "int" "int" = some true)
  | str x => exact (by decide +kernel : kitB "str" "int" = some false)
  | tuple x => exact (by decide +kernel : kitB "tuple" "int" = some false)
  | list x => exact (by decide +kernel : kitB "list" "int" = some false)
  | dict x => exact (by decide +kernel : kitB "list" "int" = some false)
theorem cutM {A R : Int → Prop} {G : Prop} (h1 : (∀ m, A m → R m) → G) (h2 : ∀ m, A m → R m) : G := h1 h2
theorem valStep_not {C : BCx} {rec : PyData → Int → Int} {v : PyData} {l : Int} (h : isTD v = false) : valStep C rec v l = -1 := by
  cases v with
  | tuple ds => cases h
  | _ => rfl
theorem valStep_len {C : BCx} {rec : PyData → Int → Int} {ds : List PyData} {l : Int} (h2 : ds.length ≠ 2) (h : l ≤ 0 ∨ (ds.length ≠ 3 ∧ ds.length ≠ 4)) : valStep C rec (.tuple ds) l = -1 := by
  match ds, h2 with
  | [], _ => rfl
  | [a], _ => rfl
  | [a, b], h2 => exact absurd rfl h2
  | [a, b, c], _ =>
    have q : l ≤ 0 := h.elim id fun z => absurd rfl z.1
    show (if l ≤ 0 then _ else _) = _
    rw [if_pos q]
  | [a, b, c, d], _ =>
    have q : l ≤ 0 := h.elim id fun z => absurd rfl z.2
    show (if l ≤ 0 then _ else _) = _
    rw [if_pos q]
  | a :: b :: c :: d :: e :: xs, _ => rfl
theorem DAs.three {Z : Addr → Prop} {H : Hp} {xs : List V} {x y z : PyData} (h : DAs Z H xs [x, y, z]) : ∃ u v w, xs = [u, v, w] ∧ DA Z H u x ∧ DA Z H v y ∧ DA Z H w z := by
  cases h with
  | cons a h => cases h with
    | cons b h => cases h with
      | cons c h => cases h; exact ⟨_, _, _, rfl, a, b, c⟩
theorem DAs.four {Z : Addr → Prop} {H : Hp} {xs : List V} {x y z t : PyData} (h : DAs Z H xs [x, y, z, t]) : ∃ u v w s, xs = [u, v, w, s] ∧ DA Z H u x ∧ DA Z H v y ∧ DA Z H w z ∧ DA Z H s t := by
  cases h with
  | cons a h => cases h with
    | cons b h => cases h with
      | cons c h => cases h with
        | cons d h => cases h; exact ⟨_, _, _, _, rfl, a, b, c, d⟩
theorem DA.ops {Z : Addr → Prop} {H : Hp} {v : V} {d : PyData} (h : DA Z H v d) : (opsL.any fun k => decide (v = .str k)) = isOps d := by
  cases h with
  | str z hz =>
    show _ = opsL.any fun k => decide (z = k)
    congr 1
    funext k
    exact decide_eq_decide.mpr ⟨fun q => by injection q, fun q => by rw [q]⟩
  | _ => exact List.any_eq_false.mpr fun k _ => by rw [decide_eq_false (fun z => nomatch z)]; exact Bool.false_ne_true
theorem parB_iff {C : BCx} {x y : PyData} (h : parB C x y = true) : ∃ z ds, x = .str z ∧ y = .tuple ds ∧ C.pars.lookup z = some ds.length := by
  cases x with
  | str z =>
    cases y with
    | tuple ds =>
      have h' : (match C.pars.lookup z with | some n => decide (ds.length = n) | none => false) = true := h
      cases e : C.pars.lookup z with
      | none => rw [e] at h'; cases h'
      | some n => rw [e] at h'; exact ⟨z, ds, rfl, rfl, by rw [e, of_decide_eq_true h']⟩
    | _ => cases h
  | _ => cases h
theorem ar1 {n : Nat} {l : Int} (h : ¬ l ≤ 0) (n9 : n + 5 * l.toNat ≤ 900000) : n + 5 * (l - 1).toNat ≤ 900000 := by omega
theorem ar2 {n : Nat} {l r : Int} (h : ¬ l ≤ 0) (n9 : n + 5 * l.toNat ≤ 900000) (h1 : r.toNat ≤ (l - 1).toNat) : n + (5 * ((l - 1).toNat - r.toNat) + 1) + 5 * r.toNat ≤ 900000 := by omega
theorem ar3 {n : Nat} {l r q : Int} (h : ¬ l ≤ 0) (h1 : r.toNat ≤ (l - 1).toNat) (h2 : q.toNat ≤ r.toNat) : n + (5 * ((l - 1).toNat - r.toNat) + 1) + (5 * (r.toNat - q.toNat) + 1) ≤ n + (5 * (l.toNat - q.toNat) + 1) := by omega
theorem ar4 {n : Nat} {l r : Int} (h : ¬ l ≤ 0) (h1 : r.toNat ≤ (l - 1).toNat) : n + (5 * ((l - 1).toNat - r.toNat) + 1) ≤ n + (5 * (l.toNat - r.toNat) + 1) := by omega
theorem ar5 {n i m : Nat} {l r : Int} (h : ¬ l ≤ 0) (n9 : n + 5 * l.toNat ≤ 900000) (h1 : r.toNat ≤ (l - 1).toNat) (hi : i < m) (hm : m ≤ 4) : n + (5 * ((l - 1).toNat - r.toNat) + i) + 5 * r.toNat ≤ 900000 := by omega
theorem ar6 {n i : Nat} {l r q : Int} (h1 : r.toNat ≤ (l - 1).toNat) (h2 : q.toNat ≤ r.toNat) : n + (5 * ((l - 1).toNat - r.toNat) + i) + (5 * (r.toNat - q.toNat) + 1) ≤ n + (5 * ((l - 1).toNat - q.toNat) + (i + 1)) := by omega
theorem ar7 {n m : Nat} {l r : Int} (h : ¬ l ≤ 0) (h1 : r.toNat ≤ (l - 1).toNat) (hm : m ≤ 4) : n + (5 * ((l - 1).toNat - r.toNat) + m) ≤ n + (5 * (l.toNat - r.toNat) + 1) := by omega
theorem cutA {A R G : Prop} (h1 : (A → R) → G) (h2 : A → R) : G := h1 h2
def spLV (CB : Addr) (dp : Nat) : Sp := fun vs H Q _ => ∃ (Z : Addr → Prop) (p d ia ba nd pa : Addr) (C : BCx) (v : V) (x : PyData) (l : Int) (n : Nat), vs = [.ref p, v, .int l, .int (13 - (dp : Int))] ∧ BcAt CB H p d ia ba nd pa C ∧ (∀ z m, C.pars.lookup z = some m → m ≤ 4) ∧ DA Z H v x ∧
  NmAt H nd n ∧ dp ≤ 12 ∧ n + 5 * l.toNat ≤ 900000 ∧ ∀ H', Kept [nd] H H' → NmAt H' nd (n + (5 * (l.toNat - (leftV C dp x l).toNat) + 1)) → Q (.int (leftV C dp x l)) H'
def spPV (CB : Addr) : Nat → Sp
  | 0 => fun _ _ _ _ => False
  | d + 1 => spLV CB d
structure TxO (K : PySem.W.Frag) (mg : Str → Option Value) (aO : Addr) : Prop where
  gF : ∃ t, mg "FAILED" = some (.int (-1) t)
  gD : ∃ t, mg "MOST_DEPTH" = some (.int 12 t)
  gO : mg "OPERATORS" = some (.ref aO)
  tO : ∀ H, SqT K H aO (opsL.map V.str)
abbrev nLV : List Str := ["self", "value", "left", "depth", "many", "word", "told", "one", "other", "argument"]
section
variable {P : Program} {w : World} {K : PySem.W.Frag} {mg : Str → Option Value} {base : Heap} {CB aO : Addr}
theorem sc_left_value : FnScope nLV ["self", "value", "left", "depth"] (defScope s_BodyCheck_left_value) := ⟨rfl, rfl, rfl, by decide +kernel, rfl, by decide +kernel, by decide +kernel⟩
theorem ok_left_value {f : Addr} {fd : FuncData} (dp : Nat) (F : Fun K "left_value" "BodyCheck.left_value" s_BodyCheck_left_value f fd) (T : Txt K mg) (B : TxB K CB) (O : TxO K mg aO)
    (DN : DefF P w K mg base CX0 2 "is_known_name" ["value", "names"] spKnown) (MB : MetF P w K mg base CX0 1 CB "has_block" ["self", "value"] (spHasB CB)) (MP : MetF P w K mg base CX0 1 CB "has_params" ["self", "function", "arguments"] (spHasP CB))
    (MI : MetF P w K mg base CX0 1 CB "has_import" ["self", "room", "door"] (spHasI CB)) (MV : MetF P w K mg base CX0 (dp + 2) CB "left_value" ["self", "value", "left", "depth"] (spPV CB dp)) :
    FnOk P w K mg base CX0 (dp + 3) f fd ["self", "value", "left", "depth"] (spLV CB dp) := by
  refine F.ok sc_left_value (fun vs H Q E h => ?_) (fun cdv A outer s H vs Q E hr h => ?_)
  · obtain ⟨Z, p, d, ia, ba, nd, pa, C, v, x, l, n, rfl, _⟩ := h
    rfl
  · obtain ⟨Z, p, d, ia, ba, nd, pa, C, v, x, l, n, rfl, hB, h4, hv, hn, hdp, n9, k⟩ := h
    have nd0 := sc_left_value.nd
    have hu := Room_u65 hr
    have hu0 := Nat.lt_of_le_of_lt (Nat.le_add_right _ _) hu
    have hu1 := Nat.lt_of_le_of_lt (Nat.add_le_add_left (show 1 ≤ 65 by decide) _) hu
    have hr1 : Room 1 _ := hr.mono (show 1 ≤ dp + 2 by omega)
    have hr2 : Room 2 _ := hr.mono (show 2 ≤ dp + 2 by omega)
    obtain ⟨tF, gF⟩ := O.gF
    obtain ⟨tD, gD⟩ := O.gD
    obtain ⟨tM, gM⟩ := T.gMod
    refine ⟨_, pss_cons (ps_set (i := 4) nd0 rfl (Or.inl rfl) (pe_ifExp (pt_val (pe_callB call_isi (by rfl) T.nIsi (by decide +kernel) (pa_cons (pv 1) (pa_cons (pe_bltn (v := .ty "tuple") (by rfl) T.nTuple (by decide +kernel) rfl) pa_nil)))) (pe_callB call_len_seq (by rfl) T.nLen PySem.boot_len (pa_cons (pv 1) pa_nil)) pe_int))
      (pss_cons (ps_if (pt_cmpR op_gt (pv 3) (pe_glob (v := .int 12) rfl gD ⟨tD, rfl⟩) (by rfl)) (pss_one (ps_ret (pe_glob (v := .int (-1)) rfl gF ⟨tF, rfl⟩))) pss_nil)
      (pss_cons (ps_if (pt_cmpR op_eq (pv 4) pe_int (nomark _))
        (pss_cons (ps_asg (pv 1) (pg_tup (by rfl) (pgs_cons (pg_name (i := 5) nd0 rfl (Or.inl rfl)) (pgs_cons (pg_name (i := 6) nd0 rfl (Or.inl rfl)) pgs_nil))))
        (pss_one (ps_if (pt_cmpR (op_eqS hu0) (pv 5) pe_str (nomark _))
          (pss_one (ps_if (PW.pt (pw_and (pt_val (pe_callB call_isi (by rfl) T.nIsi (by decide +kernel) (pa_cons (pv 6) (pa_cons (pe_bltn (v := .ty "int") (by rfl) T.nInt (by decide +kernel) rfl) pa_nil))))
            (pw_and (pt_cmpR op_isntB (pv 6) pe_bl (nomark _)) (pw_and (pt_cmpR op_isntB (pv 6) pe_bl (nomark _)) (pw_and1 (pt_chain op_le op_lt pe_int (pv 6) (pe_glob (v := .int 10000) rfl gM ⟨tM, rfl⟩)))))))
            (pss_one (ps_ret (pe_op op_sub (pv 2) pe_int))) pss_nil))
          (pss_one (ps_if (PW.pt (pw_and (pt_cmpR (op_eqS hu0) (pv 5) pe_str (nomark _)) (pw_and (pt_val (pe_callB call_isi (by rfl) T.nIsi (by decide +kernel) (pa_cons (pv 6) (pa_cons (pe_bltn (v := .ty "str") (by rfl) T.nStr (by decide +kernel) rfl) pa_nil))))
            (pw_and1 (PW.pt (pw_or (pt_cmp (pc_din hu1 (pv 6) (pe_fld (pv 0) rfl))) (pw_or1 (pt_val (pe_cD DN hr2 rfl pass0 (pa_cons (pv 6) (pa_cons (pe_fld (pv 0) rfl) pa_nil)))))))))))
            (pss_one (ps_ret (pe_op op_sub (pv 2) pe_int))) pss_nil)))))
        (pss_one (ps_if (pt_cmpR op_le (pv 2) pe_int (nomark _)) (pss_one (ps_ret (pe_glob (v := .int (-1)) rfl gF ⟨tF, rfl⟩)))
          (pss_one (ps_if (pt_cmpR op_eq (pv 4) pe_int (nomark _))
            (pss_cons (ps_asg (pv 1) (pg_tup (by rfl) (pgs_cons (pg_name (i := 5) nd0 rfl (Or.inl rfl)) (pgs_cons (pg_name (i := 7) nd0 rfl (Or.inl rfl)) (pgs_cons (pg_name (i := 8) nd0 rfl (Or.inl rfl)) pgs_nil)))))
            (pss_cons (ps_if (pt_cmpR (op_inST hu1) (pv 5) (pe_glob (v := .ref aO) rfl O.gO rfl) (by rfl))
              (pss_one (ps_ret (pe_mD (pv 0) B.cl MV hr pass0 (pa_cons (pv 8) (pa_cons (pe_mD (pv 0) B.cl MV hr pass0 (pa_cons (pv 7) (pa_cons (pe_op op_sub (pv 2) pe_int) (pa_cons (pe_op op_add (pv 3) pe_int) pa_nil)))) (pa_cons (pe_op op_add (pv 3) pe_int) pa_nil)))))) pss_nil)
            (pss_cons (ps_if (PW.pt (pw_and (pt_cmpR (op_eqS hu0) (pv 5) pe_str (nomark _)) (pw_and1 (pt_val (pe_mD (pv 0) B.cl MB hr1 pass0 (pa_cons (pv 7) pa_nil))))))
              (pss_one (ps_ret (pe_mD (pv 0) B.cl MV hr pass0 (pa_cons (pv 8) (pa_cons (pe_op op_sub (pv 2) pe_int) (pa_cons (pe_op op_add (pv 3) pe_int) pa_nil)))))) pss_nil)
            (pss_one (ps_if (PW.pt (pw_and (pt_cmpR (op_eqS hu0) (pv 5) pe_str (nomark _)) (pw_and1 (pt_val (pe_mD (pv 0) B.cl MP hr1 pass0 (pa_cons (pv 7) (pa_cons (pv 8) pa_nil)))))))
              (pss_cons (ps_aug (i := 2) nd0 rfl (Or.inl rfl) pe_int ip_sub)
              (pss_cons (ps_for PassesOwn.never rfl (pi_tup (pv 8)) (pg_name (i := 9) nd0 rfl (Or.inl rfl))
                (pss_one (ps_set (i := 2) nd0 rfl (Or.inl rfl) (pe_mD (pv 0) B.cl MV hr pass0 (pa_cons (pv 9) (pa_cons (pv 2) (pa_cons (pe_op op_add (pv 3) pe_int) pa_nil)))))))
              (pss_one (ps_ret (pv 2))))) pss_nil)))))
            (pss_one (ps_if (PW.pt (pw_and (pt_cmpR op_eq (pv 4) pe_int (nomark _)) (pw_and (pt_cmpR (op_eqS hu0) (pe_ix ix_tup (pv 1) pe_int (fun _ _ => rfl)) pe_str (nomark _))
              (pw_and1 (pt_val (pe_mD (pv 0) B.cl MI hr1 pass0 (pa_cons (pe_ix ix_tup (pv 1) pe_int (fun _ _ => rfl)) (pa_cons (pe_ix ix_tup (pv 1) pe_int (fun _ _ => rfl)) pa_nil))))))))
              (pss_one (ps_ret (pe_mD (pv 0) B.cl MV hr pass0 (pa_cons (pe_ix ix_tup (pv 1) pe_int (fun _ _ => rfl)) (pa_cons (pe_op op_sub (pv 2) pe_int) (pa_cons (pe_op op_add (pv 3) pe_int) pa_nil)))))) pss_nil)))))))
      (pss_one (ps_ret (pe_glob (v := .int (-1)) rfl gF ⟨tF, rfl⟩))))), ?_⟩
    refine' cutM (A := fun m => (isTD x = false ∧ m = 0) ∨ ∃ a xs ds, v = .ref a ∧ x = .tuple ds ∧ H a = some (.tup xs) ∧ DAs Z H xs ds ∧ m = (xs.length : Int)) (fun key => ?_) ?_
    rotate_left
    · refine ⟨_, rfl, _, _, _, _, _, rfl, .ty "tuple", hv.ty, kit_ty (kit_T x), _, rfl, ?_⟩
      cases et : isTD x with
      | true =>
        obtain ⟨a, xs, ds, ev, ex, ha, hs⟩ := hv.tupOf et
        refine iteT ⟨_, rfl, a, xs, (by rw [ev]), .inr (SqT.of ha), ?_⟩
        obtain ⟨m, hm⟩ : ∃ m : Int, m = (xs.length : Int) := ⟨_, rfl⟩
        rw [← hm]
        exact key m (.inr ⟨a, xs, ds, ev, ex, ha, hs, hm⟩)
      | false => exact iteF (key 0 (.inl ⟨et, rfl⟩))
    rintro m hm
    refine ⟨_, rfl, _, _, rfl, rfl, _, rfl, ?_⟩
    have fail0 : leftV C dp x l = -1 → Q (.int (-1)) H := fun e => by
      have q := k H Kept.refl (hn.le (by omega))
      rwa [e] at q
    cases dp with
    | zero => exact iteT (fail0 rfl)
    | succ e =>
    have d12 : decide (13 - ((e + 1 : Nat) : Int) > 12) = false := decide_eq_false (by omega)
    rw [d12]
    refine iteF ?_
    refine ⟨_, rfl, rfl, _, rfl, ?_⟩
    have eL : leftV C (e + 1) x l = valStep C (leftV C e) x l := rfl
    rw [eL] at k fail0
    by_cases m2 : m = 2
    · subst m2
      refine iteT ?_
      obtain ⟨a, xs, ds, rfl, rfl, ha, hs, hm⟩ := hm.resolve_left (fun z => absurd z.2 (by decide))
      have l2 := hs.len
      obtain ⟨w, t, rfl⟩ : ∃ w t, ds = [w, t] := by
        match ds, (show ds.length = 2 by omega) with
        | [w, t], _ => exact ⟨w, t, rfl⟩
      obtain ⟨v1, v2, rfl, h1, h2⟩ := hs.two
      have e0 : valStep C (leftV C e) (.tuple [w, t]) l = if isOwn "number" w then (if numJ t then l - 1 else -1) else if isOwn "local" w && nameJ t then l - 1 else -1 := rfl
      rw [e0] at k fail0
      refine ⟨_, rfl, a, _, rfl, SqT.of ha, rfl, ?_⟩
      refine ⟨_, _, rfl, _, _, rfl, rfl, ?_⟩
      refine ⟨_, rfl, "number", rfl, h1.plv, _, rfl, ?_⟩
      rw [h1.own]
      cases o1 : isOwn "number" w with
      | true =>
        rw [o1, if_pos rfl] at k
        rw [o1, if_pos rfl] at fail0
        refine iteT ?_
        refine ⟨_, rfl, _, _, _, _, _, rfl, .ty "int", h2.ty, kit_ty (kit_I t), _, rfl, ?_⟩
        have n1 : NmAt H nd (n + (5 * (l.toNat - (l - 1).toNat) + 1)) := hn.le (by omega)
        cases h2 with
        | int i =>
          refine iteT ?_
          refine ⟨_, rfl, true, rfl, .inl ⟨⟨i, rfl⟩, _, rfl, iteT ?_⟩⟩
          refine ⟨_, rfl, false, rfl, .inl ⟨⟨i, rfl⟩, _, rfl, iteT ?_⟩⟩
          refine ⟨_, rfl, _, _, rfl, rfl, _, rfl, ?_⟩
          have ei : numJ (.int i) = (decide (0 ≤ i) && decide (i ≤ 9999)) := rfl
          refine ite2 (fun h1 => ?_) (fun h1 => ?_)
          · rw [ei, h1, Bool.true_and] at k fail0
            refine ⟨_, _, rfl, rfl, _, rfl, ?_⟩
            refine ite2 (fun h3 => ?_) (fun h3 => ?_)
            · rw [decide_eq_true (show i ≤ 9999 by have := of_decide_eq_true h3; omega), if_pos rfl] at k
              exact ⟨_, rfl, _, _, rfl, rfl, k H Kept.refl n1⟩
            · rw [decide_eq_false (show ¬ i ≤ 9999 from fun y => h3 (decide_eq_true (by omega)))] at fail0
              exact fail0 rfl
          · rw [ei, Bool.eq_false_iff.mpr h1, Bool.false_and] at fail0
            exact ⟨_, rfl, iteF (fail0 rfl)⟩
        | bl b =>
          refine iteT ?_
          refine ⟨_, rfl, true, rfl, .inr ⟨b, rfl, _, rfl, ?_⟩⟩
          cases b with
          | true => exact iteF (iteF (fail0 rfl))
          | false => exact iteT ⟨_, rfl, false, rfl, .inr ⟨false, rfl, _, rfl, iteF (iteF (fail0 rfl))⟩⟩
        | non => exact iteF (iteF (fail0 rfl))
        | str z hz => exact iteF (iteF (fail0 rfl))
        | lst hx z hs => exact iteF (iteF (fail0 rfl))
        | tup hx hs => exact iteF (iteF (fail0 rfl))
      | false =>
        rw [o1, if_neg Bool.false_ne_true] at k
        rw [o1, if_neg Bool.false_ne_true] at fail0
        refine iteF ?_
        refine ⟨_, rfl, "local", rfl, h1.plv, _, rfl, ?_⟩
        rw [h1.own]
        cases o2 : isOwn "local" w with
        | false =>
          rw [o2] at fail0
          exact iteF (iteF (fail0 rfl))
        | true =>
        rw [o2, Bool.true_and] at k fail0
        refine iteT ?_
        refine ⟨_, rfl, _, _, _, _, _, rfl, .ty "str", h2.ty, kit_ty (kit_S t), _, rfl, ?_⟩
        cases o3 : isSD t with
        | false => exact iteF (iteF (fail0 (by rw [nameJ_not o3]; rfl)))
        | true =>
        obtain ⟨z, rfl, rfl⟩ := h2.strOf o3
        have hn0 := hn
        obtain ⟨ks, hnd, lk, gk⟩ := hn
        refine iteT ⟨_, rfl, _, rfl, p, CB, d, _, _, rfl, hB.hp, B.cl, B.nN, rfl, nd, _, rfl, DGet.k (k := Sum.inr z) hnd, _, rfl, ?_⟩
        rw [val_names]
        by_cases hz2 : z ∈ ks
        · rw [decide_eq_true hz2]
          rw [show nameJ (.str z) = true from gk z hz2, if_pos rfl] at k
          exact iteT (iteT ⟨_, rfl, _, _, rfl, rfl, k H Kept.refl (hn0.le (by omega))⟩)
        · rw [decide_eq_false hz2]
          refine iteF ?_
          refine ⟨_, rfl, _, rfl, p, CB, d, _, _, rfl, hB.hp, B.cl, B.nN, rfl, Z, .str z, .str z, nd, n, rfl, h2, hn0, by omega, fun H1 c1 nm1 => ?_⟩
          have kk : ∀ q, nameJ (.str z) = q → Q (.int (if q = true then l - 1 else -1)) H1 := fun q e => by
            have g := k H1 c1 (nm1.le (by omega))
            rwa [e] at g
          cases o4 : nameJ (.str z) with
          | true => exact ⟨_, rfl, iteT ⟨_, rfl, _, _, rfl, rfl, kk true o4⟩⟩
          | false => exact ⟨_, rfl, iteF (kk false o4)⟩
    · rw [decide_eq_false (show ¬ V.int m = V.int 2 from fun z => m2 (by injection z))]
      refine iteF ?_
      refine ⟨_, rfl, _, _, rfl, rfl, _, rfl, ?_⟩
      refine ite2 (fun l0 => ?_) (fun l0 => ?_)
      · refine fail0 ?_
        rcases hm with ⟨h, _⟩ | ⟨a, xs, ds, ev, ex, ha, hs, hm⟩
        · exact valStep_not h
        · rw [ex]
          exact valStep_len (fun z => m2 (by rw [hm, hs.len, z]; rfl)) (.inl (of_decide_eq_true l0))
      have l1 : ¬ l ≤ 0 := fun z => l0 (decide_eq_true z)
      have he12 : e ≤ 12 := Nat.le_of_succ_le hdp
      have ed : (13 - ((e + 1 : Nat) : Int) + 1) = 13 - (e : Int) := by omega
      refine ⟨_, rfl, rfl, _, rfl, ?_⟩
      by_cases m3 : m = 3
      · subst m3
        refine iteT ?_
        obtain ⟨a, xs, ds, rfl, rfl, ha, hs, hm⟩ := hm.resolve_left (fun z => absurd z.2 (by decide))
        have l2 := hs.len
        obtain ⟨w, a1, b1, rfl⟩ : ∃ w a b, ds = [w, a, b] := by
          match ds, (show ds.length = 3 by omega) with
          | [w, a, b], _ => exact ⟨w, a, b, rfl⟩
        obtain ⟨v1, v2, v3, rfl, h1, h2, h3⟩ := hs.three
        have e0 : valStep C (leftV C e) (.tuple [w, a1, b1]) l = if isOps w then leftV C e b1 (leftV C e a1 (l - 1)) else if isOwn "cell" w && blkB C a1 then leftV C e b1 (l - 1) else if isOwn "run" w && parB C a1 b1 then (itemsD b1).foldl (fun l x => leftV C e x l) (l - 1) else -1 := by
          show (if l ≤ 0 then _ else _) = _
          rw [if_neg l1]
        rw [e0] at k fail0
        refine ⟨_, rfl, a, _, rfl, SqT.of ha, rfl, ?_⟩
        refine ⟨_, _, rfl, _, _, rfl, _, _, rfl, rfl, ?_⟩
        refine ⟨_, rfl, aO, opsL, rfl, O.tO _, h1.plv, _, rfl, ?_⟩
        rw [h1.ops]
        cases o1 : isOps w with
        | true =>
          rw [o1, if_pos rfl] at k
          have le1 := leftV_le C e a1 (l - 1)
          have le2 := leftV_le C e b1 (leftV C e a1 (l - 1))
          refine iteT ⟨_, rfl, p, d, _, rfl, hB.hp, rfl, _, rfl, _, rfl, p, d, _, rfl, hB.hp, rfl, _, rfl, _, rfl, _, _, rfl, rfl, _, rfl, _, _, rfl, rfl, ?_⟩
          refine ⟨Z, p, d, ia, ba, nd, pa, C, v2, a1, l - 1, n, congrArg (fun z => [V.ref p, v2, V.int (l - 1), V.int z]) ed, hB, h4, h2, hn, he12, ar1 l1 n9, fun H1 c1 n1 => ?_⟩
          refine ⟨_, rfl, _, _, rfl, rfl, ?_⟩
          refine ⟨Z, p, d, ia, ba, nd, pa, C, v3, b1, leftV C e a1 (l - 1), _, congrArg (fun z => [V.ref p, v3, V.int (leftV C e a1 (l - 1)), V.int z]) ed, hB.kept c1 hn, h4, h3.kept c1 hn, n1, he12, ar2 l1 n9 le1, fun H2 c2 n2 => ?_⟩
          exact k H2 (c1.trans c2) (n2.le (ar3 l1 le1 le2))
        | false =>
        rw [o1, if_neg Bool.false_ne_true] at k fail0
        refine iteF ?_
        refine ⟨_, rfl, "cell", rfl, h1.plv, _, rfl, ?_⟩
        rw [h1.own]
        refine' cutA (A := (isOwn "cell" w && blkB C a1) = false) (fun key => ?_) ?_
        rotate_left
        · cases o2 : isOwn "cell" w with
          | false => exact iteF (iteF (key (by rw [o2]; rfl)))
          | true =>
          refine iteT ⟨_, rfl, p, d, _, rfl, hB.hp, rfl, _, rfl, Z, p, d, ia, ba, nd, pa, C, v2, a1, rfl, hB, h2, ?_⟩
          cases o3 : blkB C a1 with
          | false => exact ⟨_, rfl, iteF (key (by rw [o2, o3]; rfl))⟩
          | true =>
          rw [o2, o3, show (true && true) = true from rfl, if_pos rfl] at k
          have le1 := leftV_le C e b1 (l - 1)
          refine ⟨_, rfl, iteT ⟨_, rfl, p, d, _, rfl, hB.hp, rfl, _, rfl, _, rfl, _, _, rfl, rfl, _, rfl, _, _, rfl, rfl, ?_⟩⟩
          exact ⟨Z, p, d, ia, ba, nd, pa, C, v3, b1, l - 1, n, congrArg (fun z => [V.ref p, v3, V.int (l - 1), V.int z]) ed, hB, h4, h3, hn, he12, ar1 l1 n9, fun H1 c1 n1 => k H1 c1 (n1.le (ar4 l1 le1))⟩
        intro o2
        rw [o2, if_neg Bool.false_ne_true] at k fail0
        refine ⟨_, rfl, "run", rfl, h1.plv, _, rfl, ?_⟩
        rw [h1.own]
        cases o3 : isOwn "run" w with
        | false =>
          rw [o3] at fail0
          exact iteF (iteF (fail0 rfl))
        | true =>
        rw [o3, Bool.true_and] at k fail0
        refine iteT ⟨_, rfl, p, d, _, rfl, hB.hp, rfl, _, rfl, _, rfl, Z, p, d, ia, ba, nd, pa, C, v2, v3, a1, b1, rfl, hB, h2, h3, ?_⟩
        cases o4 : parB C a1 b1 with
        | false =>
          rw [o4] at fail0
          exact ⟨_, rfl, iteF (fail0 rfl)⟩
        | true =>
        rw [o4, if_pos rfl] at k
        obtain ⟨z, es, rfl, rfl, hlk⟩ := parB_iff o4
        have l4 := h4 z _ hlk
        obtain ⟨b, ys, rfl, hb, hbs⟩ := h3.tupE
        have el := hbs.len
        refine ⟨_, rfl, iteT ?_⟩
        refine ⟨_, rfl, _, _, rfl, rfl, ?_⟩
        have fle : ∀ (xs : List PyData) (l : Int), (xs.foldl (fun l x => leftV C e x l) l).toNat ≤ l.toNat := fold_le (fun l x => leftV_le C e x l)
        refine ⟨_, rfl, b, rfl, ⟨_, SqT.of hb⟩, ?_⟩
        refine for_tup (xs := ys) (fun i σ H' => ∃ o : Option V, σ = [some (.ref p), some (.ref a), some (.int ((es.take i).foldl (fun l x => leftV C e x l) (l - 1))), some (.int (13 - ((e + 1 : Nat) : Int))), some (.int 3), some v1, none, some v2, some (.ref b), o] ∧ Kept [nd] H H' ∧
          NmAt H' nd (n + (5 * ((l - 1).toNat - ((es.take i).foldl (fun l x => leftV C e x l) (l - 1)).toNat) + i))) ⟨none, rfl, Kept.refl, hn.le (Nat.le_add_right _ _)⟩ (fun i σ H' _ ⟨o, _, c, _⟩ => SqT.of (c b _ hb (hn.notT hb))) ?turn ?done
        case turn =>
          rintro i u σ H2 hu ⟨o, rfl, c, nm⟩
          obtain ⟨x1, hx1, hda⟩ := hbs.get hu
          have il := (List.getElem?_eq_some_iff.mp hu).1
          have et : (es.take (i + 1)).foldl (fun l x => leftV C e x l) (l - 1) = leftV C e x1 ((es.take i).foldl (fun l x => leftV C e x l) (l - 1)) := by
            rw [List.take_add_one, hx1, List.foldl_append]
            rfl
          rw [et]
          have g1 := fle (es.take i) (l - 1)
          generalize (es.take i).foldl (fun l x => leftV C e x l) (l - 1) = r at nm g1 ⊢
          have g2 := leftV_le C e x1 r
          refine ⟨_, rfl, p, d, _, rfl, (hB.kept c hn).hp, rfl, _, rfl, _, rfl, _, rfl, _, _, rfl, rfl, ?_⟩
          refine ⟨Z, p, d, ia, ba, nd, pa, C, u, x1, r, _, congrArg (fun z => [V.ref p, u, V.int r, V.int z]) ed, hB.kept c hn, h4, hda.kept c hn, nm, he12, ar5 l1 n9 g1 il (by rw [el]; exact l4), fun H3 c3 n3 => ?_⟩
          exact ⟨some u, rfl, c.trans c3, n3.le (ar6 g1 g2)⟩
        case done =>
          rintro σ H2 ⟨o, rfl, c, nm⟩
          rw [el, List.take_length] at nm ⊢
          exact ⟨_, rfl, k H2 c (nm.le (ar7 l1 (fle es (l - 1)) l4))⟩
      · rw [decide_eq_false (show ¬ V.int m = V.int 3 from fun z => m3 (by injection z))]
        refine iteF ?_
        refine ⟨_, rfl, rfl, _, rfl, ?_⟩
        by_cases m4 : m = 4
        · subst m4
          refine iteT ?_
          obtain ⟨a, xs, ds, rfl, rfl, ha, hs, hm⟩ := hm.resolve_left (fun z => absurd z.2 (by decide))
          have l2 := hs.len
          obtain ⟨w, a1, b1, y1, rfl⟩ : ∃ w a b c, ds = [w, a, b, c] := by
            match ds, (show ds.length = 4 by omega) with
            | [w, a, b, c], _ => exact ⟨w, a, b, c, rfl⟩
          obtain ⟨v1, v2, v3, v4, rfl, h1, h2, h3, h5⟩ := hs.four
          have e0 : valStep C (leftV C e) (.tuple [w, a1, b1, y1]) l = if isOwn "ask" w && impB C a1 b1 then leftV C e y1 (l - 1) else -1 := by
            show (if l ≤ 0 then _ else _) = _
            rw [if_neg l1]
          rw [e0] at k fail0
          refine ⟨_, rfl, a, _, 0, _, rfl, rfl, SqT.of ha, rfl, "ask", rfl, h1.plv, _, rfl, ?_⟩
          rw [h1.own]
          cases o1 : isOwn "ask" w with
          | false =>
            rw [o1] at fail0
            exact iteF (iteF (fail0 rfl))
          | true =>
          rw [o1, Bool.true_and] at k fail0
          refine iteT ⟨_, rfl, p, d, _, rfl, hB.hp, rfl, _, rfl, a, _, 1, _, rfl, rfl, SqT.of ha, rfl, _, rfl, a, _, 2, _, rfl, rfl, SqT.of ha, rfl, Z, p, d, ia, ba, nd, pa, C, v2, v3, a1, b1, rfl, hB, h2, h3, fun H1 s1 => ?_⟩
          have ha1 := s1 _ _ ha
          have hn1 := hn.same s1
          have hB1 : BcAt CB H1 p d ia ba nd pa C := hB.kept (fun q o e _ => s1 q o e) hn
          have c1 : Kept [nd] H H1 := fun q o e _ => s1 q o e
          cases o2 : impB C a1 b1 with
          | false =>
            have g := k H1 c1 (hn1.le (by omega))
            rw [o2, if_neg Bool.false_ne_true] at g
            exact ⟨_, rfl, iteF g⟩
          | true =>
          rw [o2, if_pos rfl] at k
          refine ⟨_, rfl, iteT ⟨_, rfl, p, d, _, rfl, hB1.hp, rfl, _, rfl, a, _, 3, _, rfl, rfl, SqT.of ha1, rfl, _, rfl, _, _, rfl, rfl, _, rfl, _, _, rfl, rfl, ?_⟩⟩
          have le1 := leftV_le C e y1 (l - 1)
          exact ⟨Z, p, d, ia, ba, nd, pa, C, v4, y1, l - 1, n, congrArg (fun z => [V.ref p, v4, V.int (l - 1), V.int z]) ed, hB1, h4, h5.kept c1 hn, hn1, he12, ar1 l1 n9, fun H2 c2 n2 => k H2 (c1.trans c2) (n2.le (ar4 l1 le1))⟩
        · rw [decide_eq_false (show ¬ V.int m = V.int 4 from fun z => m4 (by injection z))]
          refine iteF (iteF (fail0 ?_))
          rcases hm with ⟨h, _⟩ | ⟨a, xs, ds, ev, ex, ha, hs, hm⟩
          · exact valStep_not h
          · rw [ex]
            exact valStep_len (fun z => m2 (by rw [hm, hs.len, z]; rfl)) (.inr ⟨fun z => m3 (by rw [hm, hs.len, z]; rfl), fun z => m4 (by rw [hm, hs.len, z]; rfl)⟩)
end
end OH
end
section
set_option Elab.async false
set_option linter.all false
set_option maxRecDepth 100000
set_option maxHeartbeats 4000000
/-! Bodies counted. -/
namespace OH
open PySem PySem.Spec PyProof.Rows L2
def stmStep (C : BCx) (rv rb : PyData → Int → Int) (l : Int) (v : PyData) : Int :=
  match v with
  | .tuple [w] => if l ≤ 0 then -1 else if isOwn "stop" w then l - 1 else -1
  | .tuple [w, a] => if l ≤ 0 then -1 else if isOwn "give" w then rv a (l - 1) else -1
  | .tuple [w, a, b] => if l ≤ 0 then -1 else if isOwn "let" w then (if nameJ a then rv b (l - 1) else -1) else if isOwn "while" w then rb b (rv a (l - 1)) else -1
  | .tuple [w, a, b, c] => if l ≤ 0 then -1 else if isOwn "store" w && blkB C a then rv c (rv b (l - 1)) else if isOwn "if" w then rb c (rb b (rv a (l - 1))) else -1
  | _ => -1
def leftB (C : BCx) : Nat → PyData → Int → Int
  | 0, b, l => if isTD b && (itemsD b).isEmpty then l else -1
  | d + 1, b, l => if isTD b then (itemsD b).foldl (stmStep C (leftV C d) (leftB C d)) l else -1
theorem stmStep_le {C : BCx} {rv rb : PyData → Int → Int} (h1 : ∀ x l, (rv x l).toNat ≤ l.toNat) (h2 : ∀ x l, (rb x l).toNat ≤ l.toNat) (l : Int) (v : PyData) : (stmStep C rv rb l v).toNat ≤ l.toNat := by
  unfold stmStep
  split
  · split
    · exact neg1_le l
    · split
      · exact sub1_le l
      · exact neg1_le l
  · split
    · exact neg1_le l
    · split
      · exact Nat.le_trans (h1 _ _) (sub1_le l)
      · exact neg1_le l
  · split
    · exact neg1_le l
    · split
      · split
        · exact Nat.le_trans (h1 _ _) (sub1_le l)
        · exact neg1_le l
      · split
        · exact Nat.le_trans (h2 _ _) (Nat.le_trans (h1 _ _) (sub1_le l))
        · exact neg1_le l
  · split
    · exact neg1_le l
    · split
      · exact Nat.le_trans (h1 _ _) (Nat.le_trans (h1 _ _) (sub1_le l))
      · split
        · exact Nat.le_trans (h2 _ _) (Nat.le_trans (h2 _ _) (Nat.le_trans (h1 _ _) (sub1_le l)))
        · exact neg1_le l
  · exact neg1_le l
theorem leftB_le (C : BCx) : ∀ (d : Nat) (v : PyData) (l : Int), (leftB C d v l).toNat ≤ l.toNat
  | 0, b, l => by
    show (if isTD b && (itemsD b).isEmpty then l else -1).toNat ≤ _
    split
    · exact Nat.le_refl _
    · exact neg1_le l
  | d + 1, b, l => by
    show (if isTD b then (itemsD b).foldl (stmStep C (leftV C d) (leftB C d)) l else -1).toNat ≤ _
    split
    · exact fold_le (fun l x => stmStep_le (leftV_le C d) (leftB_le C d) l x) _ _
    · exact neg1_le l
theorem stmStep_low {C : BCx} {rv rb : PyData → Int → Int} {l : Int} (h : l ≤ 0) (v : PyData) : stmStep C rv rb l v = -1 := by
  unfold stmStep
  split <;> first | rfl | rw [if_pos h]
theorem stmStep_not {C : BCx} {rv rb : PyData → Int → Int} {l : Int} {v : PyData} (h : isTD v = false) : stmStep C rv rb l v = -1 := by
  cases v with
  | tuple ds => cases h
  | _ => rfl
theorem fold_low {C : BCx} {rv rb : PyData → Int → Int} : ∀ xs : List PyData, xs.foldl (stmStep C rv rb) (-1) = -1
  | [] => rfl
  | x :: xs => by rw [List.foldl_cons, stmStep_low (by decide), fold_low xs]
theorem fold_fail {C : BCx} {rv rb : PyData → Int → Int} {l : Int} {ds : List PyData} {i : Nat} {x : PyData} (hx : ds[i]? = some x) (h : stmStep C rv rb ((ds.take i).foldl (stmStep C rv rb) l) x = -1) : ds.foldl (stmStep C rv rb) l = -1 := by
  have e : ds = ds.take (i + 1) ++ ds.drop (i + 1) := (List.take_append_drop _ _).symm
  rw [e, List.foldl_append, List.take_add_one, hx, List.foldl_append]
  show List.foldl _ (stmStep C rv rb ((ds.take i).foldl (stmStep C rv rb) l) x) _ = _
  rw [h, fold_low]
/-- none of the statements' forms -/
theorem stmStep_none {C : BCx} {rv rb : PyData → Int → Int} {l : Int} {w : PyData} {ds : List PyData} (h1 : (isOwn "let" w && decide ((w :: ds).length = 3)) = false) (h2 : (isOwn "store" w && (decide ((w :: ds).length = 4) && blkB C (ds.getD 0 .none))) = false)
    (h3 : (isOwn "give" w && decide ((w :: ds).length = 2)) = false) (h4 : (isOwn "if" w && decide ((w :: ds).length = 4)) = false) (h5 : (isOwn "while" w && decide ((w :: ds).length = 3)) = false) (h6 : (isOwn "stop" w && decide ((w :: ds).length = 1)) = false) : stmStep C rv rb l (.tuple (w :: ds)) = -1 := by
  match ds with
  | [] =>
    rw [show decide (([w] : List PyData).length = 1) = true from rfl, Bool.and_true] at h6
    show (if l ≤ 0 then -1 else if isOwn "stop" w then l - 1 else -1) = -1
    rw [h6, if_neg Bool.false_ne_true, ite_self]
  | [a] =>
    rw [show decide (([w, a] : List PyData).length = 2) = true from rfl, Bool.and_true] at h3
    show (if l ≤ 0 then -1 else if isOwn "give" w then rv a (l - 1) else -1) = -1
    rw [h3, if_neg Bool.false_ne_true, ite_self]
  | [a, b] =>
    rw [show decide (([w, a, b] : List PyData).length = 3) = true from rfl, Bool.and_true] at h1 h5
    show (if l ≤ 0 then -1 else if isOwn "let" w then (if nameJ a then rv b (l - 1) else -1) else if isOwn "while" w then rb b (rv a (l - 1)) else -1) = -1
    rw [h1, h5, if_neg Bool.false_ne_true, if_neg Bool.false_ne_true, ite_self]
  | [a, b, c] =>
    rw [show decide (([w, a, b, c] : List PyData).length = 4) = true from rfl, Bool.and_true] at h4
    rw [show decide (([w, a, b, c] : List PyData).length = 4) = true from rfl, Bool.true_and] at h2
    show (if l ≤ 0 then -1 else if isOwn "store" w && blkB C a then rv c (rv b (l - 1)) else if isOwn "if" w then rb c (rb b (rv a (l - 1))) else -1) = -1
    rw [show (isOwn "store" w && blkB C a) = false from h2, h4, if_neg Bool.false_ne_true, if_neg Bool.false_ne_true, ite_self]
  | a :: b :: c :: d :: ds => rfl
theorem cutH {A R : Hp → Prop} {G : Prop} (h1 : (∀ y, A y → R y) → G) (h2 : ∀ y, A y → R y) : G := h1 h2
theorem isOwn_iff {k : Str} {w : PyData} (h : isOwn k w = true) : w = .str k := by
  cases w with
  | str z => rw [of_decide_eq_true (show decide (z = k) = true from h)]
  | _ => cases h
section
variable {n : Nat} {l r q q1 q2 : Int}
theorem br0 (h : ¬ r ≤ 0) (h1 : r.toNat ≤ l.toNat) : n + 5 * (l.toNat - r.toNat) + 1 ≤ n + 5 * (l.toNat - (-1 : Int).toNat) := by
  show _ ≤ n + 5 * (l.toNat - 0)
  omega
theorem br1 (h1 : r.toNat ≤ l.toNat) : n + 5 * (l.toNat - r.toNat) ≤ n + 5 * (l.toNat - (-1 : Int).toNat) := by
  show _ ≤ n + 5 * (l.toNat - 0)
  omega
theorem br2 (h : ¬ r ≤ 0) (n9 : n + 5 * l.toNat ≤ 900000) (h1 : r.toNat ≤ l.toNat) : n + 5 * (l.toNat - r.toNat) + 1 + 5 * (r - 1).toNat ≤ 900000 := by omega
theorem br2' (h : ¬ r ≤ 0) (n9 : n + 5 * l.toNat ≤ 900000) (h1 : r.toNat ≤ l.toNat) : n + 5 * (l.toNat - r.toNat) + 5 * (r - 1).toNat ≤ 900000 := by omega
theorem br3 (h : ¬ r ≤ 0) (h1 : r.toNat ≤ l.toNat) (h2 : q.toNat ≤ (r - 1).toNat) : n + 5 * (l.toNat - r.toNat) + 1 + (5 * ((r - 1).toNat - q.toNat) + 1) ≤ n + 5 * (l.toNat - q.toNat) := by omega
theorem br3' (h : ¬ r ≤ 0) (h1 : r.toNat ≤ l.toNat) (h2 : q.toNat ≤ (r - 1).toNat) : n + 5 * (l.toNat - r.toNat) + (5 * ((r - 1).toNat - q.toNat) + 1) ≤ n + 5 * (l.toNat - q.toNat) := by omega
theorem br4 (h : ¬ r ≤ 0) (n9 : n + 5 * l.toNat ≤ 900000) (h1 : r.toNat ≤ l.toNat) (h2 : q.toNat ≤ (r - 1).toNat) : n + 5 * (l.toNat - r.toNat) + (5 * ((r - 1).toNat - q.toNat) + 1) + 5 * q.toNat ≤ 900000 := by omega
theorem br5 (h : ¬ r ≤ 0) (h1 : r.toNat ≤ l.toNat) (h2 : q.toNat ≤ (r - 1).toNat) (h3 : q1.toNat ≤ q.toNat) : n + 5 * (l.toNat - r.toNat) + (5 * ((r - 1).toNat - q.toNat) + 1) + (5 * (q.toNat - q1.toNat) + 1) ≤ n + 5 * (l.toNat - q1.toNat) := by omega
theorem br6 (h : ¬ r ≤ 0) (h1 : r.toNat ≤ l.toNat) (h2 : q.toNat ≤ (r - 1).toNat) (h3 : q1.toNat ≤ q.toNat) : n + 5 * (l.toNat - r.toNat) + (5 * ((r - 1).toNat - q.toNat) + 1) + 5 * (q.toNat - q1.toNat) ≤ n + 5 * (l.toNat - q1.toNat) := by omega
theorem br7 (h : ¬ r ≤ 0) (n9 : n + 5 * l.toNat ≤ 900000) (h1 : r.toNat ≤ l.toNat) (h2 : q.toNat ≤ (r - 1).toNat) (h3 : q1.toNat ≤ q.toNat) : n + 5 * (l.toNat - r.toNat) + (5 * ((r - 1).toNat - q.toNat) + 1) + 5 * (q.toNat - q1.toNat) + 5 * q1.toNat ≤ 900000 := by omega
theorem br8 (h : ¬ r ≤ 0) (h1 : r.toNat ≤ l.toNat) (h2 : q.toNat ≤ (r - 1).toNat) (h3 : q1.toNat ≤ q.toNat) (h4 : q2.toNat ≤ q1.toNat) : n + 5 * (l.toNat - r.toNat) + (5 * ((r - 1).toNat - q.toNat) + 1) + 5 * (q.toNat - q1.toNat) + 5 * (q1.toNat - q2.toNat) ≤ n + 5 * (l.toNat - q2.toNat) := by omega
theorem brk (n9 : n + 5 * l.toNat ≤ 900000) : n + 5 * (l.toNat - r.toNat) ≤ 1000000 := by omega
theorem br9 (h : ¬ r ≤ 0) (h1 : r.toNat ≤ l.toNat) : n + 5 * (l.toNat - r.toNat) ≤ n + 5 * (l.toNat - (r - 1).toNat) := by omega
end
def spLB (CB : Addr) (dp : Nat) : Sp := fun vs H Q _ => ∃ (Z : Addr → Prop) (p d ia ba nd pa : Addr) (C : BCx) (v : V) (x : PyData) (l : Int) (n : Nat), vs = [.ref p, v, .int l, .int (13 - (dp : Int))] ∧ BcAt CB H p d ia ba nd pa C ∧ (∀ z m, C.pars.lookup z = some m → m ≤ 4) ∧ DA Z H v x ∧
  NmAt H nd n ∧ dp ≤ 12 ∧ n + 5 * l.toNat ≤ 900000 ∧ ∀ H', Kept [nd] H H' → NmAt H' nd (n + 5 * (l.toNat - (leftB C dp x l).toNat)) → Q (.int (leftB C dp x l)) H'
def spPB (CB : Addr) : Nat → Sp
  | 0 => fun _ _ _ _ => False
  | d + 1 => spLB CB d
abbrev nLB : List Str := ["self", "body", "left", "depth", "names", "inner", "value", "many", "word"]
section
variable {P : Program} {w : World} {K : PySem.W.Frag} {mg : Str → Option Value} {base : Heap} {CB aO : Addr}
theorem sc_left_behind : FnScope nLB ["self", "body", "left", "depth"] (defScope s_BodyCheck_left_behind) := ⟨rfl, rfl, rfl, by decide +kernel, rfl, by decide +kernel, by decide +kernel⟩
theorem ok_left_behind {f : Addr} {fd : FuncData} (dp : Nat) (F : Fun K "left_behind" "BodyCheck.left_behind" s_BodyCheck_left_behind f fd) (T : Txt K mg) (B : TxB K CB) (O : TxO K mg aO)
    (DN : DefF P w K mg base CX0 2 "is_known_name" ["value", "names"] spKnown) (MB : MetF P w K mg base CX0 1 CB "has_block" ["self", "value"] (spHasB CB))
    (MV : MetF P w K mg base CX0 (dp + 2) CB "left_value" ["self", "value", "left", "depth"] (spPV CB dp)) (MD : MetF P w K mg base CX0 (dp + 2) CB "left_behind" ["self", "body", "left", "depth"] (spPB CB dp)) :
    FnOk P w K mg base CX0 (dp + 3) f fd ["self", "body", "left", "depth"] (spLB CB dp) := by
  refine F.ok sc_left_behind (fun vs H Q E h => ?_) (fun cdv A outer s H vs Q E hr h => ?_)
  · obtain ⟨Z, p, d, ia, ba, nd, pa, C, v, x, l, n, rfl, _⟩ := h
    rfl
  · obtain ⟨Z, p, d, ia, ba, nd, pa, C, v, x, l, n, rfl, hB, h4, hv, hn, hdp, n9, k⟩ := h
    have nd0 := sc_left_behind.nd
    have hu := Room_u65 hr
    have hu0 := Nat.lt_of_le_of_lt (Nat.le_add_right _ _) hu
    have hu1 := Nat.lt_of_le_of_lt (Nat.add_le_add_left (show 1 ≤ 65 by decide) _) hu
    have hr1 : Room 1 _ := hr.mono (show 1 ≤ dp + 2 by omega)
    have hr2 : Room 2 _ := hr.mono (show 2 ≤ dp + 2 by omega)
    obtain ⟨tF, gF⟩ := O.gF
    obtain ⟨tD, gD⟩ := O.gD
    refine ⟨_, pss_cons (ps_if (PW.pt (pw_or (pt_not (pt_val (pe_callB call_isi (by rfl) T.nIsi (by decide +kernel) (pa_cons (pv 1) (pa_cons (pe_bltn (v := .ty "tuple") (by rfl) T.nTuple (by decide +kernel) rfl) pa_nil)))))
        (pw_or1 (PW.pt (pw_and (pt_cmpR op_gt (pv 3) (pe_glob (v := .int 12) rfl gD ⟨tD, rfl⟩) (by rfl)) (pw_and1 (pt_truth (pv 1) (fun _ => rfl)))))))) (pss_one (ps_ret (pe_glob (v := .int (-1)) rfl gF ⟨tF, rfl⟩))) pss_nil)
      (pss_cons (ps_set (i := 4) nd0 rfl (Or.inl rfl) (pe_fld (pv 0) rfl))
      (pss_cons (ps_set (i := 5) nd0 rfl (Or.inl rfl) (pe_op op_add (pv 3) pe_int))
      (pss_cons (ps_for PassesOwn.never rfl (pi_tup (pv 1)) (pg_name (i := 6) nd0 rfl (Or.inl rfl))
        (pss_cons (ps_set (i := 7) nd0 rfl (Or.inl rfl) (pe_ifExp (pt_val (pe_callB call_isi (by rfl) T.nIsi (by decide +kernel) (pa_cons (pv 6) (pa_cons (pe_bltn (v := .ty "tuple") (by rfl) T.nTuple (by decide +kernel) rfl) pa_nil)))) (pe_callB call_len_seq (by rfl) T.nLen PySem.boot_len (pa_cons (pv 6) pa_nil)) pe_int))
        (pss_cons (ps_if (PW.pt (pw_or (pt_cmpR op_eq (pv 7) pe_int (nomark _)) (pw_or1 (pt_cmpR op_le (pv 2) pe_int (nomark _))))) (pss_one (ps_ret (pe_glob (v := .int (-1)) rfl gF ⟨tF, rfl⟩))) pss_nil)
        (pss_cons (ps_set (i := 8) nd0 rfl (Or.inl rfl) (pe_ix ix_tup (pv 6) pe_int (fun _ _ => rfl)))
        (pss_one (ps_if (PW.pt (pw_and (pt_cmpR (op_eqS hu0) (pv 8) pe_str (nomark _)) (pw_and1 (pt_cmpR op_eq (pv 7) pe_int (nomark _)))))
          (pss_cons (ps_if (PW.pt (pw_or (pt_not (pt_val (pe_callB call_isi (by rfl) T.nIsi (by decide +kernel) (pa_cons (pe_ix ix_tup (pv 6) pe_int (fun _ _ => rfl)) (pa_cons (pe_bltn (v := .ty "str") (by rfl) T.nStr (by decide +kernel) rfl) pa_nil)))))
            (pw_or1 (PW.pt (pw_and (pt_cmp (pc_dnotin hu1 (pe_ix ix_tup (pv 6) pe_int (fun _ _ => rfl)) (pv 4))) (pw_and1 (pt_not (pt_val (pe_cD DN hr2 rfl pass0 (pa_cons (pe_ix ix_tup (pv 6) pe_int (fun _ _ => rfl)) (pa_cons (pv 4) pa_nil)))))))))))
            (pss_one (ps_ret (pe_glob (v := .int (-1)) rfl gF ⟨tF, rfl⟩))) pss_nil)
          (pss_one (ps_set (i := 2) nd0 rfl (Or.inl rfl) (pe_mD (pv 0) B.cl MV hr pass0 (pa_cons (pe_ix ix_tup (pv 6) pe_int (fun _ _ => rfl)) (pa_cons (pe_op op_sub (pv 2) pe_int) (pa_cons (pv 5) pa_nil)))))))
          (pss_one (ps_if (PW.pt (pw_and (pt_cmpR (op_eqS hu0) (pv 8) pe_str (nomark _)) (pw_and (pt_cmpR op_eq (pv 7) pe_int (nomark _)) (pw_and1 (pt_val (pe_mD (pv 0) B.cl MB hr1 pass0 (pa_cons (pe_ix ix_tup (pv 6) pe_int (fun _ _ => rfl)) pa_nil)))))))
            (pss_one (ps_set (i := 2) nd0 rfl (Or.inl rfl) (pe_mD (pv 0) B.cl MV hr pass0 (pa_cons (pe_ix ix_tup (pv 6) pe_int (fun _ _ => rfl)) (pa_cons (pe_mD (pv 0) B.cl MV hr pass0 (pa_cons (pe_ix ix_tup (pv 6) pe_int (fun _ _ => rfl)) (pa_cons (pe_op op_sub (pv 2) pe_int) (pa_cons (pv 5) pa_nil)))) (pa_cons (pv 5) pa_nil))))))
            (pss_one (ps_if (PW.pt (pw_and (pt_cmpR (op_eqS hu0) (pv 8) pe_str (nomark _)) (pw_and1 (pt_cmpR op_eq (pv 7) pe_int (nomark _)))))
              (pss_one (ps_set (i := 2) nd0 rfl (Or.inl rfl) (pe_mD (pv 0) B.cl MV hr pass0 (pa_cons (pe_ix ix_tup (pv 6) pe_int (fun _ _ => rfl)) (pa_cons (pe_op op_sub (pv 2) pe_int) (pa_cons (pv 5) pa_nil))))))
              (pss_one (ps_if (PW.pt (pw_and (pt_cmpR (op_eqS hu0) (pv 8) pe_str (nomark _)) (pw_and1 (pt_cmpR op_eq (pv 7) pe_int (nomark _)))))
                (pss_cons (ps_set (i := 2) nd0 rfl (Or.inl rfl) (pe_mD (pv 0) B.cl MV hr pass0 (pa_cons (pe_ix ix_tup (pv 6) pe_int (fun _ _ => rfl)) (pa_cons (pe_op op_sub (pv 2) pe_int) (pa_cons (pv 5) pa_nil)))))
                (pss_one (ps_set (i := 2) nd0 rfl (Or.inl rfl) (pe_mD (pv 0) B.cl MD hr pass0 (pa_cons (pe_ix ix_tup (pv 6) pe_int (fun _ _ => rfl)) (pa_cons (pe_mD (pv 0) B.cl MD hr pass0 (pa_cons (pe_ix ix_tup (pv 6) pe_int (fun _ _ => rfl)) (pa_cons (pv 2) (pa_cons (pv 5) pa_nil)))) (pa_cons (pv 5) pa_nil)))))))
                (pss_one (ps_if (PW.pt (pw_and (pt_cmpR (op_eqS hu0) (pv 8) pe_str (nomark _)) (pw_and1 (pt_cmpR op_eq (pv 7) pe_int (nomark _)))))
                  (pss_one (ps_set (i := 2) nd0 rfl (Or.inl rfl) (pe_mD (pv 0) B.cl MD hr pass0 (pa_cons (pe_ix ix_tup (pv 6) pe_int (fun _ _ => rfl)) (pa_cons (pe_mD (pv 0) B.cl MV hr pass0 (pa_cons (pe_ix ix_tup (pv 6) pe_int (fun _ _ => rfl)) (pa_cons (pe_op op_sub (pv 2) pe_int) (pa_cons (pv 5) pa_nil)))) (pa_cons (pv 5) pa_nil))))))
                  (pss_one (ps_if (PW.pt (pw_and (pt_cmpR (op_eqS hu0) (pv 8) pe_str (nomark _)) (pw_and1 (pt_cmpR op_eq (pv 7) pe_int (nomark _)))))
                    (pss_one (ps_aug (i := 2) nd0 rfl (Or.inl rfl) pe_int ip_sub))
                    (pss_one (ps_ret (pe_glob (v := .int (-1)) rfl gF ⟨tF, rfl⟩)))))))))))))))))))
      (pss_one (ps_ret (pv 2)))))), ?_⟩
    have fail0 : leftB C dp x l = -1 → Q (.int (-1)) H := fun e => by
      have q := k H Kept.refl (hn.le (Nat.le_add_right _ _))
      rwa [e] at q
    refine ⟨_, rfl, _, _, _, _, _, rfl, .ty "tuple", hv.ty, kit_ty (kit_T x), _, rfl, ?_⟩
    cases et : isTD x with
    | false => exact iteT (iteT (fail0 (by cases dp <;> (unfold leftB; rw [et]; rfl))))
    | true =>
    obtain ⟨a, xs, ds, rfl, rfl, ha, hs⟩ := hv.tupOf et
    have el := hs.len
    refine iteF ⟨_, rfl, _, _, rfl, rfl, _, rfl, ?_⟩
    have inner : ∀ e : Nat, (13 - ((e + 1 : Nat) : Int) + 1) = 13 - (e : Int) := fun e => by omega
    refine' cutA (A := (0 < dp ∨ xs = [])) (fun key => ?_) ?_
    rotate_left
    · rcases Nat.eq_zero_or_pos dp with hz | hz
      · rw [show decide (13 - (dp : Int) > 12) = true from decide_eq_true (by omega)]
        refine iteT ⟨_, rfl, _, .inr (.inl ⟨xs, SqT.of ha, rfl⟩), ?_⟩
        by_cases hx : xs = []
        · rw [show (!xs.isEmpty) = false by rw [hx]; rfl]
          exact iteF (key (.inr hx))
        · rw [show (!xs.isEmpty) = true by cases xs with | nil => exact absurd rfl hx | cons _ _ => rfl]
          refine iteT (fail0 ?_)
          rw [hz]
          show (if isTD (.tuple ds) && (itemsD (.tuple ds)).isEmpty then l else -1) = -1
          rw [show (itemsD (.tuple ds)).isEmpty = false by
            show ds.isEmpty = false
            cases ds with
            | nil => exact absurd (List.eq_nil_of_length_eq_zero el) hx
            | cons _ _ => rfl]
          rfl
      · rw [show decide (13 - (dp : Int) > 12) = false from decide_eq_false (by omega)]
        exact iteF (iteF (key (.inl hz)))
    intro hdx
    refine ⟨_, rfl, p, CB, d, _, _, rfl, hB.hp, B.cl, B.nN, rfl, ?_⟩
    refine ⟨_, rfl, _, _, rfl, rfl, ?_⟩
    refine ⟨_, rfl, a, rfl, ⟨_, SqT.of ha⟩, ?_⟩
    cases dp with
    | zero =>
      have ex : xs = [] := hdx.resolve_left (Nat.lt_irrefl 0)
      subst ex
      cases ds with
      | cons z zs => cases el
      | nil =>
      refine for_tup (xs := []) (fun i σ H' => H' = H ∧ σ = [some (.ref p), some (.ref a), some (.int l), some (.int (13 - ((0 : Nat) : Int))), some (.ref nd), some (.int (13 - ((0 : Nat) : Int) + 1)), none, none, none]) ⟨rfl, rfl⟩ (fun i σ H' _ e => by rw [e.1]; exact SqT.of ha) ?turn0 ?done0
      case turn0 =>
        intro i u σ H' hu
        cases hu
      case done0 =>
        rintro σ H' ⟨e1, e2⟩
        subst e1 e2
        exact ⟨_, rfl, k _ Kept.refl (hn.le (Nat.le_add_right _ _))⟩
    | succ e =>
    have he12 : e ≤ 12 := Nat.le_of_succ_le hdp
    have eL : leftB C (e + 1) (.tuple ds) l = ds.foldl (stmStep C (leftV C e) (leftB C e)) l := rfl
    rw [eL] at k fail0
    have fle : ∀ (xs : List PyData) (l : Int), (xs.foldl (stmStep C (leftV C e) (leftB C e)) l).toNat ≤ l.toNat := fold_le (fun l x => stmStep_le (leftV_le C e) (leftB_le C e) l x)
    refine for_tup (xs := xs) (fun i σ H' => ∃ o6 o7 o8 : Option V, σ = [some (.ref p), some (.ref a), some (.int ((ds.take i).foldl (stmStep C (leftV C e) (leftB C e)) l)), some (.int (13 - ((e + 1 : Nat) : Int))), some (.ref nd), some (.int (13 - (e : Int))), o6, o7, o8] ∧ Kept [nd] H H' ∧
      NmAt H' nd (n + 5 * (l.toNat - ((ds.take i).foldl (stmStep C (leftV C e) (leftB C e)) l).toNat))) ⟨none, none, none, (by show ([some (V.ref p), some (V.ref a), some (V.int l), some (V.int (13 - ((e + 1 : Nat) : Int))), some (V.ref nd), some (V.int (13 - ((e + 1 : Nat) : Int) + 1)), none, none, none] : L2.St) = _; rw [inner e]; rfl), Kept.refl, hn.le (Nat.le_add_right _ _)⟩ (fun i σ H' _ ⟨_, _, _, _, c, _⟩ => SqT.of (c a _ ha (hn.notT ha))) ?turn ?done
    case done =>
      rintro σ H2 ⟨o6, o7, o8, rfl, c, nm⟩
      rw [el, List.take_length] at nm ⊢
      exact ⟨_, rfl, k H2 c nm⟩
    case turn =>
      rintro i u σ H2 hu ⟨o6, o7, o8, rfl, c, nm⟩
      obtain ⟨x1, hx1, hda⟩ := hs.get hu
      have hd1 := hda.kept c hn
      have hB1 := hB.kept c hn
      have et : (ds.take (i + 1)).foldl (stmStep C (leftV C e) (leftB C e)) l = stmStep C (leftV C e) (leftB C e) ((ds.take i).foldl (stmStep C (leftV C e) (leftB C e)) l) x1 := by
        rw [List.take_add_one, hx1, List.foldl_append]
        rfl
      rw [et]
      have ffail := fold_fail (C := C) (rv := leftV C e) (rb := leftB C e) (l := l) hx1
      have g1 := fle (ds.take i) l
      generalize (ds.take i).foldl (stmStep C (leftV C e) (leftB C e)) l = r at nm g1 ffail ⊢
      have fail1 : stmStep C (leftV C e) (leftB C e) r x1 = -1 → ∀ H3, Kept [nd] H2 H3 → NmAt H3 nd (n + 5 * (l.toNat - r.toNat)) → Q (.int (-1)) H3 := fun e1 H3 c3 n3 => by
        have q := k H3 (c.trans c3)
        rw [ffail e1] at q
        exact q (n3.le (br1 g1))
      refine' cutM (A := fun m => (isTD x1 = false ∧ m = 0) ∨ ∃ b ys es, u = .ref b ∧ x1 = .tuple es ∧ H2 b = some (.tup ys) ∧ DAs Z H2 ys es ∧ m = (ys.length : Int)) (fun key => ?_) ?_
      rotate_left
      · refine ⟨_, rfl, _, _, _, _, _, rfl, .ty "tuple", hd1.ty, kit_ty (kit_T x1), _, rfl, ?_⟩
        cases et : isTD x1 with
        | true =>
          obtain ⟨b, ys, es, ev, ex, hb, hbs⟩ := hd1.tupOf et
          refine iteT ⟨_, rfl, b, ys, (by rw [ev]), .inr (SqT.of hb), ?_⟩
          obtain ⟨m, hm⟩ : ∃ m : Int, m = (ys.length : Int) := ⟨_, rfl⟩
          rw [← hm]
          exact key m (.inr ⟨b, ys, es, ev, ex, hb, hbs, hm⟩)
        | false => exact iteF (key 0 (.inl ⟨et, rfl⟩))
      rintro m hm
      refine ⟨_, rfl, rfl, _, rfl, ?_⟩
      by_cases m0 : m = 0
      · rw [decide_eq_true (show V.int m = V.int 0 by rw [m0])]
        refine iteT (iteT (fail1 ?_ H2 Kept.refl nm))
        rcases hm with ⟨h, _⟩ | ⟨b, ys, es, ev, ex, hb, hbs, hm⟩
        · exact stmStep_not h
        · have l2 := hbs.len
          have : es = [] := List.eq_nil_of_length_eq_zero (by omega)
          rw [ex, this]
          rfl
      rw [decide_eq_false (show ¬ V.int m = V.int 0 from fun z => m0 (by injection z))]
      refine iteF ⟨_, rfl, _, _, rfl, rfl, _, rfl, ?_⟩
      refine ite2 (fun l0 => ?_) (fun l0 => ?_)
      · exact fail1 (stmStep_low (of_decide_eq_true l0) x1) H2 Kept.refl nm
      have l1 : ¬ r ≤ 0 := fun z => l0 (decide_eq_true z)
      obtain ⟨b, ys, es, rfl, rfl, hb, hbs, hm2⟩ := hm.resolve_left (fun z => m0 z.2)
      have l2 := hbs.len
      obtain ⟨w0, es, rfl⟩ : ∃ w0 es', es = w0 :: es' := by
        cases es with
        | nil => exact absurd (by rw [hm2, l2]; rfl) m0
        | cons w0 es => exact ⟨w0, es, rfl⟩
      obtain ⟨v0, vs, rfl, h0, hbs'⟩ : ∃ v0 vs, ys = v0 :: vs ∧ DA Z H2 v0 w0 ∧ DAs Z H2 vs es := by
        cases hbs with
        | cons h1 h2 => exact ⟨_, _, rfl, h1, h2⟩
      refine ⟨_, rfl, b, _, 0, _, rfl, rfl, SqT.of hb, atI_nat (j := 0) rfl, ?_⟩
      have mm : ∀ j : Nat, decide (V.int m = V.int (j : Int)) = decide ((w0 :: es).length = j) := fun j => decide_eq_decide.mpr ⟨fun z => by injection z with z; omega, fun z => by rw [hm2, l2, z]⟩
      -- let
      refine ⟨_, rfl, "let", rfl, h0.plv, _, rfl, ?_⟩
      rw [h0.own]
      refine' cutA (A := (isOwn "let" w0 && decide ((w0 :: es).length = 3)) = false) (fun key => ?_) ?_
      rotate_left
      · cases o1 : isOwn "let" w0 with
        | false => exact iteF (iteF (key (by rw [o1]; rfl)))
        | true =>
        refine iteT ⟨_, rfl, rfl, _, rfl, ?_⟩
        rw [show decide (V.int m = V.int 3) = decide ((w0 :: es).length = 3) from mm 3]
        cases o2 : decide ((w0 :: es).length = 3) with
        | false => exact iteF (key (by rw [o1, o2]; rfl))
        | true =>
        refine iteT ?_
        obtain ⟨a1, b1, rfl⟩ : ∃ a b, es = [a, b] := by
          match es, of_decide_eq_true o2 with
          | [a, b], _ => exact ⟨a, b, rfl⟩
        obtain ⟨v1, v2, rfl, h1, h2⟩ := hbs'.two
        have e0 : stmStep C (leftV C e) (leftB C e) r (.tuple [w0, a1, b1]) = if nameJ a1 then leftV C e b1 (r - 1) else -1 := by
          show (if r ≤ 0 then -1 else if isOwn "let" w0 then _ else _) = _
          rw [if_neg l1, if_pos o1]
        rw [e0] at fail1 ⊢
        have g2 := leftV_le C e b1 (r - 1)
        obtain ⟨st, hst⟩ : ∃ st, st = if nameJ a1 then leftV C e b1 (r - 1) else -1 := ⟨_, rfl⟩
        rw [← hst] at fail1 ⊢
        refine ⟨_, rfl, b, _, 1, _, rfl, rfl, SqT.of hb, rfl, _, _, _, _, _, rfl, .ty "str", h1.ty, kit_ty (kit_S a1), _, rfl, ?_⟩
        cases o3 : isSD a1 with
        | false => exact iteT (iteT (fail1 (by rw [hst, nameJ_not o3]; rfl) H2 Kept.refl nm))
        | true =>
        obtain ⟨z, rfl, rfl⟩ := h1.strOf o3
        have nm0 := nm
        obtain ⟨ks, hnd, lk, gk⟩ := nm
        refine iteF ⟨_, rfl, b, _, 1, _, rfl, rfl, SqT.of hb, rfl, _, rfl, nd, _, rfl, DGet.k (k := Sum.inr z) hnd, _, rfl, ?_⟩
        rw [val_names]
        refine' cutH (A := fun H3 => Kept [nd] H2 H3 ∧ NmAt H3 nd (n + 5 * (l.toNat - r.toNat) + 1) ∧ nameJ (.str z) = true) (fun key => ?_) ?_
        rotate_left
        · by_cases hz2 : z ∈ ks
          · rw [decide_eq_true hz2]
            exact iteF (iteF (key H2 ⟨Kept.refl, nm0.le (Nat.le_succ _), gk z hz2⟩))
          · rw [decide_eq_false hz2]
            refine iteT ?_
            refine ⟨_, rfl, b, _, 1, _, rfl, rfl, SqT.of hb, rfl, _, rfl, Z, .str z, .str z, nd, _, rfl, h1, nm0, brk n9, fun H3 c3 n3 => ?_⟩
            cases o4 : nameJ (.str z) with
            | true => exact ⟨_, rfl, iteF (key H3 ⟨c3, n3, o4⟩)⟩
            | false =>
              have q := k H3 (c.trans c3)
              rw [ffail (by rw [e0, o4]; rfl)] at q
              exact ⟨_, rfl, iteT (q (n3.le (br0 l1 g1)))⟩
        rintro H3 ⟨c3, n3, o4⟩
        have hb3 := c3 _ _ hb (nm0.notT hb)
        refine ⟨_, rfl, p, d, _, rfl, (hB1.kept c3 nm0).hp, rfl, _, rfl, b, _, 2, _, rfl, rfl, SqT.of hb3, rfl, _, rfl, _, _, rfl, rfl, _, rfl, ?_⟩
        refine ⟨Z, p, d, ia, ba, nd, pa, C, v2, b1, r - 1, _, rfl, hB1.kept c3 nm0, h4, h2.kept c3 nm0, n3, he12, br2 l1 n9 g1, fun H4 c4 n4 => ?_⟩
        rw [show st = leftV C e b1 (r - 1) by rw [hst, o4, if_pos rfl]]
        exact ⟨_, _, _, rfl, c.trans (c3.trans c4), n4.le (br3 l1 g1 g2)⟩
      intro n1
      -- store
      refine ⟨_, rfl, "store", rfl, h0.plv, _, rfl, ?_⟩
      rw [h0.own]
      refine' cutA (A := (isOwn "store" w0 && (decide ((w0 :: es).length = 4) && blkB C (es.getD 0 .none))) = false) (fun key => ?_) ?_
      rotate_left
      · cases o1 : isOwn "store" w0 with
        | false => exact iteF (iteF (key (by rw [o1]; rfl)))
        | true =>
        refine iteT ⟨_, rfl, rfl, _, rfl, ?_⟩
        rw [show decide (V.int m = V.int 4) = decide ((w0 :: es).length = 4) from mm 4]
        cases o2 : decide ((w0 :: es).length = 4) with
        | false => exact iteF (iteF (key (by rw [o1, o2]; rfl)))
        | true =>
        obtain ⟨a1, b1, y1, eE⟩ : ∃ a b c, es = [a, b, c] := by
          match es, of_decide_eq_true o2 with
          | [a, b, c], _ => exact ⟨a, b, c, rfl⟩
        obtain ⟨v1, v2, v3, eV, h1, h2, h3⟩ := (show DAs Z H2 vs [a1, b1, y1] by rw [← eE]; exact hbs').three
        have hbx : H2 b = some (.tup [v0, v1, v2, v3]) := by rw [hb, eV]
        refine iteT ⟨_, rfl, p, d, _, rfl, hB1.hp, rfl, _, rfl, b, _, 1, _, rfl, rfl, SqT.of hbx, rfl, Z, p, d, ia, ba, nd, pa, C, v1, a1, rfl, hB1, h1, ?_⟩
        cases o3 : blkB C a1 with
        | false => exact ⟨_, rfl, iteF (key (by rw [o1, o2, eE]; exact o3))⟩
        | true =>
        have e0 : stmStep C (leftV C e) (leftB C e) r (.tuple (w0 :: es)) = leftV C e y1 (leftV C e b1 (r - 1)) := by
          rw [eE]
          show (if r ≤ 0 then -1 else if isOwn "store" w0 && blkB C a1 then _ else _) = _
          rw [if_neg l1, o1, o3]
          rfl
        rw [e0]
        have g2 := leftV_le C e b1 (r - 1)
        have g3 := leftV_le C e y1 (leftV C e b1 (r - 1))
        refine ⟨_, rfl, iteT ⟨_, rfl, p, d, _, rfl, hB1.hp, rfl, _, rfl, b, _, 3, _, rfl, rfl, SqT.of hbx, rfl, _, rfl, p, d, _, rfl, hB1.hp, rfl, _, rfl, b, _, 2, _, rfl, rfl, SqT.of hbx, rfl, _, rfl, _, _, rfl, rfl, _, rfl, ?_⟩⟩
        refine ⟨Z, p, d, ia, ba, nd, pa, C, v2, b1, r - 1, _, rfl, hB1, h4, h2, nm, he12, br2' l1 n9 g1, fun H3 c3 n3 => ⟨_, rfl, ?_⟩⟩
        refine ⟨Z, p, d, ia, ba, nd, pa, C, v3, y1, leftV C e b1 (r - 1), _, rfl, hB1.kept c3 nm, h4, h3.kept c3 nm, n3, he12, br4 l1 n9 g1 g2, fun H4 c4 n4 => ?_⟩
        exact ⟨_, _, _, rfl, c.trans (c3.trans c4), n4.le (br5 l1 g1 g2 g3)⟩
      intro n2
      -- give
      refine ⟨_, rfl, "give", rfl, h0.plv, _, rfl, ?_⟩
      rw [h0.own]
      refine' cutA (A := (isOwn "give" w0 && decide ((w0 :: es).length = 2)) = false) (fun key => ?_) ?_
      rotate_left
      · cases o1 : isOwn "give" w0 with
        | false => exact iteF (iteF (key (by rw [o1]; rfl)))
        | true =>
        refine iteT ⟨_, rfl, rfl, _, rfl, ?_⟩
        rw [show decide (V.int m = V.int 2) = decide ((w0 :: es).length = 2) from mm 2]
        cases o2 : decide ((w0 :: es).length = 2) with
        | false => exact iteF (key (by rw [o1, o2]; rfl))
        | true =>
        obtain ⟨a1, eE⟩ : ∃ a, es = [a] := by
          match es, of_decide_eq_true o2 with
          | [a], _ => exact ⟨a, rfl⟩
        obtain ⟨v1, eV, h1⟩ : ∃ v1, vs = [v1] ∧ DA Z H2 v1 a1 := by
          have q : DAs Z H2 vs [a1] := by rw [← eE]; exact hbs'
          cases q with
          | cons g1 g2 => cases g2; exact ⟨_, rfl, g1⟩
        have hbx : H2 b = some (.tup [v0, v1]) := by rw [hb, eV]
        have e0 : stmStep C (leftV C e) (leftB C e) r (.tuple (w0 :: es)) = leftV C e a1 (r - 1) := by
          rw [eE]
          show (if r ≤ 0 then -1 else if isOwn "give" w0 then _ else _) = _
          rw [if_neg l1, o1]
          rfl
        rw [e0]
        have g2 := leftV_le C e a1 (r - 1)
        refine iteT ⟨_, rfl, p, d, _, rfl, hB1.hp, rfl, _, rfl, b, _, 1, _, rfl, rfl, SqT.of hbx, rfl, _, rfl, _, _, rfl, rfl, _, rfl, ?_⟩
        refine ⟨Z, p, d, ia, ba, nd, pa, C, v1, a1, r - 1, _, rfl, hB1, h4, h1, nm, he12, br2' l1 n9 g1, fun H3 c3 n3 => ?_⟩
        exact ⟨_, _, _, rfl, c.trans c3, n3.le (br3' l1 g1 g2)⟩
      intro n3
      -- if
      refine ⟨_, rfl, "if", rfl, h0.plv, _, rfl, ?_⟩
      rw [h0.own]
      refine' cutA (A := (isOwn "if" w0 && decide ((w0 :: es).length = 4)) = false) (fun key => ?_) ?_
      rotate_left
      · cases o1 : isOwn "if" w0 with
        | false => exact iteF (iteF (key (by rw [o1]; rfl)))
        | true =>
        refine iteT ⟨_, rfl, rfl, _, rfl, ?_⟩
        rw [show decide (V.int m = V.int 4) = decide ((w0 :: es).length = 4) from mm 4]
        cases o2 : decide ((w0 :: es).length = 4) with
        | false => exact iteF (key (by rw [o1, o2]; rfl))
        | true =>
        obtain ⟨a1, b1, y1, eE⟩ : ∃ a b c, es = [a, b, c] := by
          match es, of_decide_eq_true o2 with
          | [a, b, c], _ => exact ⟨a, b, c, rfl⟩
        obtain ⟨v1, v2, v3, eV, h1, h2, h3⟩ := (show DAs Z H2 vs [a1, b1, y1] by rw [← eE]; exact hbs').three
        have hbx : H2 b = some (.tup [v0, v1, v2, v3]) := by rw [hb, eV]
        have e0 : stmStep C (leftV C e) (leftB C e) r (.tuple (w0 :: es)) = leftB C e y1 (leftB C e b1 (leftV C e a1 (r - 1))) := by
          rw [eE]
          show (if r ≤ 0 then -1 else if isOwn "store" w0 && blkB C a1 then _ else if isOwn "if" w0 then _ else _) = _
          have q := isOwn_iff o1
          rw [if_neg l1, o1, q, show isOwn "store" (.str "if") = false from (by decide), Bool.false_and]
          rfl
        rw [e0]
        have g2 := leftV_le C e a1 (r - 1)
        have g3 := leftB_le C e b1 (leftV C e a1 (r - 1))
        have g4 := leftB_le C e y1 (leftB C e b1 (leftV C e a1 (r - 1)))
        refine iteT ⟨_, rfl, p, d, _, rfl, hB1.hp, rfl, _, rfl, b, _, 1, _, rfl, rfl, SqT.of hbx, rfl, _, rfl, _, _, rfl, rfl, _, rfl, ?_⟩
        refine ⟨Z, p, d, ia, ba, nd, pa, C, v1, a1, r - 1, _, rfl, hB1, h4, h1, nm, he12, br2' l1 n9 g1, fun H3 c3 n3 => ?_⟩
        have hb3 := c3 _ _ hbx (nm.notT hbx)
        have hB3 := hB1.kept c3 nm
        refine ⟨_, rfl, p, d, _, rfl, hB3.hp, rfl, _, rfl, b, _, 3, _, rfl, rfl, SqT.of hb3, rfl, _, rfl, p, d, _, rfl, hB3.hp, rfl, _, rfl, b, _, 2, _, rfl, rfl, SqT.of hb3, rfl, _, rfl, _, rfl, ?_⟩
        refine ⟨Z, p, d, ia, ba, nd, pa, C, v2, b1, leftV C e a1 (r - 1), _, rfl, hB3, h4, h2.kept c3 nm, n3, he12, br4 l1 n9 g1 g2, fun H4 c4 n4 => ⟨_, rfl, ?_⟩⟩
        refine ⟨Z, p, d, ia, ba, nd, pa, C, v3, y1, leftB C e b1 (leftV C e a1 (r - 1)), _, rfl, hB3.kept c4 n3, h4, (h3.kept c3 nm).kept c4 n3, n4, he12, br7 l1 n9 g1 g2 g3, fun H5 c5 n5 => ?_⟩
        exact ⟨_, _, _, rfl, c.trans (c3.trans (c4.trans c5)), n5.le (br8 l1 g1 g2 g3 g4)⟩
      intro n4
      -- while
      refine ⟨_, rfl, "while", rfl, h0.plv, _, rfl, ?_⟩
      rw [h0.own]
      refine' cutA (A := (isOwn "while" w0 && decide ((w0 :: es).length = 3)) = false) (fun key => ?_) ?_
      rotate_left
      · cases o1 : isOwn "while" w0 with
        | false => exact iteF (iteF (key (by rw [o1]; rfl)))
        | true =>
        refine iteT ⟨_, rfl, rfl, _, rfl, ?_⟩
        rw [show decide (V.int m = V.int 3) = decide ((w0 :: es).length = 3) from mm 3]
        cases o2 : decide ((w0 :: es).length = 3) with
        | false => exact iteF (key (by rw [o1, o2]; rfl))
        | true =>
        obtain ⟨a1, b1, eE⟩ : ∃ a b, es = [a, b] := by
          match es, of_decide_eq_true o2 with
          | [a, b], _ => exact ⟨a, b, rfl⟩
        obtain ⟨v1, v2, eV, h1, h2⟩ := (show DAs Z H2 vs [a1, b1] by rw [← eE]; exact hbs').two
        have hbx : H2 b = some (.tup [v0, v1, v2]) := by rw [hb, eV]
        have e0 : stmStep C (leftV C e) (leftB C e) r (.tuple (w0 :: es)) = leftB C e b1 (leftV C e a1 (r - 1)) := by
          rw [eE]
          show (if r ≤ 0 then -1 else if isOwn "let" w0 then _ else if isOwn "while" w0 then _ else _) = _
          have q := isOwn_iff o1
          rw [if_neg l1, o1, q, show isOwn "let" (.str "while") = false from (by decide)]
          rfl
        rw [e0]
        have g2 := leftV_le C e a1 (r - 1)
        have g3 := leftB_le C e b1 (leftV C e a1 (r - 1))
        refine iteT ⟨_, rfl, p, d, _, rfl, hB1.hp, rfl, _, rfl, b, _, 2, _, rfl, rfl, SqT.of hbx, rfl, _, rfl, p, d, _, rfl, hB1.hp, rfl, _, rfl, b, _, 1, _, rfl, rfl, SqT.of hbx, rfl, _, rfl, _, _, rfl, rfl, _, rfl, ?_⟩
        refine ⟨Z, p, d, ia, ba, nd, pa, C, v1, a1, r - 1, _, rfl, hB1, h4, h1, nm, he12, br2' l1 n9 g1, fun H3 c3 n3 => ⟨_, rfl, ?_⟩⟩
        refine ⟨Z, p, d, ia, ba, nd, pa, C, v2, b1, leftV C e a1 (r - 1), _, rfl, hB1.kept c3 nm, h4, h2.kept c3 nm, n3, he12, br4 l1 n9 g1 g2, fun H4 c4 n4 => ?_⟩
        exact ⟨_, _, _, rfl, c.trans (c3.trans c4), n4.le (br6 l1 g1 g2 g3)⟩
      intro n5
      -- stop
      refine ⟨_, rfl, "stop", rfl, h0.plv, _, rfl, ?_⟩
      rw [h0.own]
      have noneOf : (isOwn "stop" w0 && decide ((w0 :: es).length = 1)) = false → Q (.int (-1)) H2 := fun n6 => fail1 (stmStep_none n1 n2 n3 n4 n5 n6) H2 Kept.refl nm
      cases o1 : isOwn "stop" w0 with
      | false => exact iteF (iteF (noneOf (by rw [o1]; rfl)))
      | true =>
      refine iteT ⟨_, rfl, rfl, _, rfl, ?_⟩
      rw [show decide (V.int m = V.int 1) = decide ((w0 :: es).length = 1) from mm 1]
      cases o2 : decide ((w0 :: es).length = 1) with
      | false => exact iteF (noneOf (by rw [o1, o2]; rfl))
      | true =>
      have eE : es = [] := by
        match es, of_decide_eq_true o2 with
        | [], _ => rfl
      have e0 : stmStep C (leftV C e) (leftB C e) r (.tuple (w0 :: es)) = r - 1 := by
        rw [eE]
        show (if r ≤ 0 then -1 else if isOwn "stop" w0 then _ else _) = _
        rw [if_neg l1, o1]
        rfl
      rw [e0]
      refine iteT ⟨_, rfl, _, _, rfl, rfl, ?_⟩
      exact ⟨_, _, _, rfl, c, nm.le (br9 l1 g1)⟩
end
end OH
end
section
set_option Elab.async false
set_option linter.all false
set_option maxRecDepth 100000
set_option maxHeartbeats 4000000
/-! Dicts by comprehension whose keys may be tuples; what a turn puts in is left open. -/
namespace OH
open PySem PySem.Spec PyProof.Rows L2
abbrev NoX : Value → Shared → Prop := fun _ _ => False
/-- the loop of a block, whatever its turns do where all tests hold -/
theorem loopE {prog : Program} {w : World} {A : Around} {R : Result → Shared → Prop} {s : Shared} {kx vx tg : Expr} {gens : List Comprehension} {scope : Scope} {pos : Pos} {ifs : List Expr} {d : Nat} {p : Pos} {it acc : Value} {env : Env} {emit : Sem Unit}
    (ht : compTurn (.DictComp kx vx gens scope pos) d it acc env = (do
      standAt p
      match ← pyNext it with
      | none => pure (.done .next)
      | some v =>
        letOwnedTupleGo tg it v
        assign tg env v
        let mut ok := true
        for c in ifs do
          if ok then ok ← isTrue c env (eval c env)
        if ok then emit
        again (.compLoop (.DictComp kx vx gens scope pos) d it acc env)))
    (J : Nat → Shared → Prop)
    (turn : ∀ n t, J n t → wpAny (model prog w) A (pyNext it) (fun r t1 => match r with
      | none => R (.ok .next) t1
      | some v => wpAny (model prog w) A (letOwnedTupleGo tg it v) (fun _ t2 => wpAny (model prog w) A (assign tg env v) (fun _ t3 =>
          wpAny (model prog w) A (forIn ifs true fun c r => if r = true then do let ok ← isTrue c env (eval c env); pure (ForInStep.yield ok) else pure (ForInStep.yield r))
            (fun b t4 => if b = true then wpAny (model prog w) A emit (fun _ t5 => ∃ m, m < n ∧ J m t5) NoX t4 else ∃ m, m < n ∧ J m t4) NoX t3) NoX t2) NoX t1) NoX t)
    (n : Nat) (h : J n s) : codeAny (model prog w) A (.compLoop (.DictComp kx vx gens scope pos) d it acc env) R s := by
  refine codeAny_loop rfl J (fun n t hJ => ?_) n h
  show wpAny _ A ((compTurn (.DictComp kx vx gens scope pos) d it acc env).onRaise (fun x => do noteFrame x env; theTreesLotGoes x)) _ _ t
  refine wpAny_noted ?_
  rw [ht]
  refine wpAny_bind (wpAny_standAt (wpAny_bind (thnF (turn n t hJ) fun r t1 h1 => ?_)))
  cases r with
  | none => exact wpAny_pure h1
  | some v =>
    refine wpAny_bind (thnF h1 fun _ t2 h2 => wpAny_bind (thnF h2 fun _ t3 h3 => wpAny_bind (thnF h3 fun b t4 h4 => ?_)))
    cases b with
    | false => exact wpAny_pure ⟨rfl, h4⟩
    | true => exact wpAny_bind (thnF h4 fun _ t5 h5 => wpAny_pure ⟨rfl, h5⟩)
/-- d[y] = v by a comprehension -/
theorem d_putC {X : Cx} {pins : List (Addr × Obj)} {σ : L2.St} {H H' : Hp} {s : Shared} {E : Value → Shared → Prop} {D : Addr} {y v : V} {u r : Value} {Q : Unit → Shared → Prop} (hu : X.A.units < cLine) (I : Inv X pins σ H s) (g : DPut H D y v H') (ry : RelV y u) (rv : RelV v r)
    (h : ∀ s', Inv X pins σ H' s' → Q () s') : wpAny (model X.prog X.w) X.A (dictSet D u r) Q E s := by
  rcases g with ⟨kvs, k, e, ey, l, eH⟩ | ⟨kvs, k, b, e, ey, eb, l, eH⟩
  · subst ey eH
    exact d_dictSet I e l ry rv h
  · subst ey eH
    cases (show u = Value.ref b from ry)
    obtain ⟨z, hd, xs, rel, dd⟩ := dt_of I.hok e
    have few : xs.length ≤ sizeLine := by rw [← Paired.length rel]; exact z
    have more : (putK kvs k v).length ≤ sizeLine := by have := length_putK kvs k v; omega
    refine wpAny_dictSet_heap (knd := tupleKind (mixKind X.prog X.w)) (hsz := few) (show (tupleKind (mixKind X.prog X.w)).room X.A from hu) (key_of I.hok eb) dd fun h' dd' hs => h _ ?_
    obtain ⟨q, es, ep, hq, h2, h3, h4, _, h5⟩ := dd'
    refine d_write I (by rw [e]; exact True.intro) hs ⟨q, hq⟩ ⟨more, hd, _, (rel.put k eb rv).keeps fun c ys ec => ?_, q, es, ep, hq, h2, h3, h4, h5⟩
    have away := ne_of ec e (fun z => nomatch z)
    exact (upd_ne away).trans ec
section
variable {X : Cx}
/-- what a turn does where all tests hold: from some slots and a heap, to a heap -/
abbrev TEm := Addr → L2.St → Hp → (Hp → Prop) → Prop
def tDm (wi : TI) (g : TG) (tt : TT) (Em : TEm) (o0 : HO) (vs : List Nat) : TE := fun σ H Q => wi σ H fun J H1 => ∀ D, H1 D = none → ∃ W : Nat → Nat → Hp → Prop, (∃ m, W 0 m (upd H1 D o0)) ∧ ∀ i m H2, W i m H2 →
  (J.stop i H2 ∧ Q (.ref D) H2) ∨ (J.go i H2 ∧ ∃ Nx : Hp → Prop, (∀ H3, Nx H3 → ∃ m', m' < m ∧ W (i + 1) m' H3) ∧ ∀ x H3, J.yld i H2 x H3 → g x (wipe σ vs) H3 fun σ2 H4 => wipe σ2 vs = wipe σ vs ∧ tt σ2 H4 fun b H5 =>
    if b = true then Em D σ2 H5 Nx else Nx H5)
/-- the dict is of the kind that is told -/
def Fresh0 (X : Cx) (o0 : HO) : Prop := ∀ (h : Heap) (H : Hp), sysModules < h.objs.size → ObjOk X.prog X.w H (h.push { cls := .type "dict", data := .dict #[] }) h.objs.size o0
theorem fresh_k : Fresh0 X (.dK []) := fun h _ b => dk_empty h b
theorem fresh_t : Fresh0 X (.dT []) := fun h _ b => dt_empty h b
/-- the turn's own part runs as it is told -/
def EmOk (X : Cx) (scope : Scope) (own : List (Str × Nat)) (emit : Addr → Env → Sem Unit) (Em : TEm) : Prop :=
  ∀ (s : Shared) (H : Hp) (C : Addr) (cl : List (Str × Addr)) (fp : List Addr) (pins : List (Addr × Obj)) (s9 : Shared) (σ8 : L2.St) (H9 : Hp) (D : Addr) (Nx : Hp → Prop) (Fin : Shared → Prop),
    Inv (X.blk s H scope (compEnvC scope cl C X.env) fp) pins σ8 H9 s9 → Em D σ8 H9 Nx →
    (∀ (σ' : L2.St) (H' : Hp) (s' : Shared), Inv (X.blk s H scope (compEnvC scope cl C X.env) fp) pins σ' H' s' → σ8.length = σ'.length → (∀ (j : Nat) (v : V), j ∉ own.map (·.2) → σ8[j]? = some (some v) → σ'[j]? = some (some v)) → Nx H' → Fin s') →
    wpAny (model X.prog X.w) X.A (emit D (compEnvC scope cl C X.env)) (fun _ s' => Fin s') NoX s9
theorem dm_core {pins : List (Addr × Obj)} {s : Shared} {σ : L2.St} {H : Hp} {Q : VK} {kx vx tg iter : Expr} {ifs : List Expr} {rest : List Comprehension} {scope : Scope} {own : List (Str × Nat)} {pos pos' : Pos} {wi : TI} {g : TG} {tt : TT} {Em : TEm} {o0 : HO} {emit : Addr → Env → Sem Unit}
    {use : Option (Value → Sem Unit)} {Qf : Value → Shared → Prop} (hc : X.calm = true) (hN : X.N.Nodup) (I : Inv X pins σ H s) (hi : PI X tg iter wi) (ok : BlkOk X.N X.env.scope scope own)
    (hg : ∀ (s : Shared) (H : Hp) (C : Addr) (cl : List (Str × Addr)) (fp : List Addr), PG (X.blk s H scope (compEnvC scope cl C X.env) fp) tg g)
    (ht : ∀ (s : Shared) (H : Hp) (C : Addr) (cl : List (Str × Addr)) (fp : List Addr), PTs (X.blk s H scope (compEnvC scope cl C X.env) fp) ifs tt)
    (f0 : Fresh0 X o0) (hem : EmOk X scope own emit Em)
    (het : ∀ (it : Value) (D : Addr) (env : Env), compTurn (.DictComp kx vx (⟨tg, iter, ifs, 0⟩ :: rest) scope pos) 0 it (.ref D) env = (do
      standAt iter.pos
      match ← pyNext it with
      | none => pure (.done .next)
      | some v =>
        letOwnedTupleGo tg it v
        assign tg env v
        let mut ok := true
        for c in ifs do
          if ok then ok ← isTrue c env (eval c env)
        if ok then emit D env
        again (.compLoop (.DictComp kx vx (⟨tg, iter, ifs, 0⟩ :: rest) scope pos) 0 it (.ref D) env)))
    (hs : ∀ x, foldedSetIterable iter X.env x = pure x) (h : tDm wi g tt Em o0 (own.map (·.2)) σ H Q)
    (hRR : ∀ D C s' m H', Inv X pins σ H' s' → Q (.ref D) H' → s'.heap.Ns C m → FpOk X pins H' C → compPost (model X.prog X.w) X.A X.xe use Qf (.ref D) C (.ok .next) s') :
    wpAny (model X.prog X.w) X.A (comprehension (.DictComp kx vx (⟨tg, iter, ifs, 0⟩ :: rest) scope pos) scope X.env pos' newDict false (eval iter X.env) use) Qf X.xe s := by
  have free : ∀ y ∈ scope.names, y.2 = .free → ∃ c, X.env.cells.lookup y.1 = some c := fun y hy e => (ok.free y hy e).elim (fun k => I.ok.has _ (.inl k)) fun k => I.ok.has _ (.inr k)
  refine wpAny_comprehension_free (use := use) rfl hs (closure_ok free) ok.kind (fun y hy e => by rw [ok.uniq y hy, e]) ?_
  refine thn (hi.run pins s σ H _ I h) fun xv s1 hx => thn hx fun itv s2 hx2 => ?_
  obtain ⟨it, fp, tn, J, H2, rfl, I2, T, st2, away, q⟩ := hx2
  refine wpAny_newObj_type (newEnv_comp ?_)
  have hDn : H2 s2.heap.objs.size = none := I2.hok.fresh (Nat.le_refl _)
  obtain ⟨W, ⟨m0, w0⟩, turn⟩ := q _ hDn
  have I3 : Inv X pins σ (upd H2 s2.heap.objs.size o0) { s2 with heap := s2.heap.push { cls := .type "dict", data := .dict #[] } } :=
    I2.laid (t' := s2.toks) (fun b o e => Heap.get?_push_of_some _ e) (Nat.le_refl _) (f0 s2.heap _ I2.big)
  have small : ∀ b ∈ fp, b < s2.heap.objs.size := fun b hb => let ⟨o, e, _⟩ := T.obj _ _ st2 b hb; Heap.lt_size e
  have pushed : s2.heap.objs.size < (s2.heap.push { cls := .type "dict", data := .dict #[] }).objs.size := by rw [Heap.size_push]; exact Nat.lt_succ_self _
  have f3 : ∀ b ∈ fp, FpOk X pins (upd H2 s2.heap.objs.size o0) b ∧ b < (s2.heap.push { cls := .type "dict", data := .dict #[] }).objs.size := fun b hb =>
    ⟨⟨(upd_ne (Nat.ne_of_lt (small b hb))).trans (away b hb).1, (away b hb).2⟩, Nat.lt_trans (small b hb) pushed⟩
  have st3 : tn 0 (s2.heap.push { cls := .type "dict", data := .dict #[] }) := T.keep _ _ _ st2 fun b _ o e => Heap.get?_push_of_some _ e
  generalize hDD : s2.heap.objs.size = D at *
  generalize hS3 : ({ s2 with heap := s2.heap.push { cls := .type "dict", data := .dict #[] } } : Shared) = s3 at *
  have e3 : s3.heap = s2.heap.push { cls := .type "dict", data := .dict #[] } := by rw [← hS3]
  rw [← e3] at f3 st3
  generalize hHH : upd H2 D o0 = H3 at *
  have I4 := block_start I3 ok hN f3
  have pg := hg s3 H3 s3.heap.objs.size (cellsFrom (s3.heap.objs.size + 1) scope.names (cloFrom X.env.cells scope.names [])) fp
  have pt := ht s3 H3 s3.heap.objs.size (cellsFrom (s3.heap.objs.size + 1) scope.names (cloFrom X.env.cells scope.names [])) fp
  have pe := fun pins' s9 σ8 H9 Nx Fin => hem s3 H3 s3.heap.objs.size (cellsFrom (s3.heap.objs.size + 1) scope.names (cloFrom X.env.cells scope.names [])) fp pins' s9 σ8 H9 D Nx Fin
  show codeAny _ _ (.compStart (.DictComp kx vx (⟨tg, iter, ifs, 0⟩ :: rest) scope pos) 0 (.ref it) (.ref D) (compEnvC scope (cellsFrom (s3.heap.objs.size + 1) scope.names (cloFrom X.env.cells scope.names [])) s3.heap.objs.size X.env))
    (compPost (model X.prog X.w) X.A X.xe use Qf (.ref D) s3.heap.objs.size) { s3 with heap := pushCells (s3.heap.push { cls := .type "dict", data := .dict #[] }) scope.names }
  have cL : (compEnvC scope (cellsFrom (s3.heap.objs.size + 1) scope.names (cloFrom X.env.cells scope.names [])) s3.heap.objs.size X.env).locals = s3.heap.objs.size := rfl
  generalize compEnvC scope (cellsFrom (s3.heap.objs.size + 1) scope.names (cloFrom X.env.cells scope.names [])) s3.heap.objs.size X.env = ce at I4 pg pt pe cL ⊢
  have st4 : tn 0 (pushCells (s3.heap.push { cls := .type "dict", data := .dict #[] }) scope.names) := T.keep _ _ _ st3 fun b _ o e => pushCells_keeps _ _ _ _ (Heap.get?_push_of_some _ e)
  have stat : ∀ {σ' : L2.St} {H' : Hp} {s' : Shared}, Inv (X.blk s3 H3 scope ce fp) [] σ' H' s' → (∀ b ∈ fp, H' b = none) → ∀ b ∈ fp, FpOk (X.blk s3 H3 scope ce fp) [] H' b := fun {σ' H' s'} I' hn b hb =>
    ⟨hn b hb, (I'.ok.exf b hb).1, I'.ok.exfs b hb, .inl hb, fun x c e => (I'.ok.exf b hb).2 x c e, fun p hp => nomatch (show p ∈ ([] : List (Addr × Obj)) ++ [] from hp)⟩
  refine (fun (loop : codeAny (model X.prog X.w) X.A (.compLoop (.DictComp kx vx (⟨tg, iter, ifs, 0⟩ :: rest) scope pos) 0 (.ref it) (.ref D) ce) (compPost (model X.prog X.w) X.A X.xe use Qf (.ref D) s3.heap.objs.size) _) =>
    codeAny_compStart_dict loop (T.self X.A 0 _ _ _ st4 loop)) ?_
  refine loopE (het _ _ _) (fun n t => ∃ i H', Inv (X.blk s3 H3 scope ce fp) [] (wipe σ (own.map (·.2))) H' t ∧ tn i t.heap ∧ (∀ b ∈ fp, H' b = none) ∧ W i n H') ?_ m0 ⟨0, H3, I4, st4, fun b hb => (f3 b hb).1.1, w0⟩
  rintro n t ⟨i, H5, I5, st5, n5, w5⟩
  rcases turn i n H5 w5 with ⟨stop, qq⟩ | ⟨go, Nx, hNx, step⟩
  · refine thnF (T.done (X.blk s3 H3 scope ce fp) rfl rfl rfl hc i [] t _ H5 NoX I5 (stat I5 n5) st5 stop) fun r t1 ⟨hr, I6⟩ => ?_
    subst hr
    have back : Inv X pins σ H5 t1 := I3.call' (ch := fp) I6.os I6.base I6.hok I6.bare fun b hb => ⟨(f3 b hb).1.2.2.2.1, (f3 b hb).1.2.1, (f3 b hb).1.2.2.2.2.1, (f3 b hb).1.2.2.2.2.2⟩
    have nC : H5 s3.heap.objs.size = none := by
      rw [← cL]
      exact I6.free
    obtain ⟨m, hn, _⟩ := I6.loc
    exact hRR D s3.heap.objs.size t1 m H5 back qq (by rw [← cL]; exact hn) (I3.fpOk (Nat.le_refl _) nC)
  · refine thnF (T.item (X.blk s3 H3 scope ce fp) rfl rfl rfl hc i [] t _ H5 NoX I5 (stat I5 n5) st5 go) fun r t1 ⟨u, hr, h6⟩ => ?_
    subst hr
    refine thnF h6 fun _ t2 ⟨x, H7, I7, r7, y7, st7, n7⟩ => ?_
    refine thnF (pg.run _ t2 _ H7 x u _ (I7.pinned (stat I7 n7) (T.obj _ _ st7)) r7 (step x H7 y7)) fun _ t3 ⟨σ8, H8, I8, hw8, q8⟩ => ?_
    refine thnF (pt.run _ t3 σ8 H8 _ I8 q8) fun b t4 ⟨H9, I9, q9⟩ => ?_
    have turned : ∀ (σ' : L2.St) (H' : Hp) (s' : Shared), Inv (X.blk s3 H3 scope ce fp) ([] ++ pinsAt fp t2.heap) σ' H' s' → σ8.length = σ'.length → (∀ (j : Nat) (v : V), j ∉ own.map (·.2) → σ8[j]? = some (some v) → σ'[j]? = some (some v)) → Nx H' →
        ∃ m, m < n ∧ ∃ i H', Inv (X.blk s3 H3 scope ce fp) [] (wipe σ (own.map (·.2))) H' s' ∧ tn i s'.heap ∧ (∀ b ∈ fp, H' b = none) ∧ W i m H' := fun σ' H' s' I' hl hk nx => by
      obtain ⟨m', hm, w'⟩ := hNx H' nx
      have held : ∀ b ∈ fp, ∀ o, t2.heap.get? b = some o → s'.heap.get? b = some o ∧ H' b = none := fun b hb o e =>
        let z := I'.pin (b, o) (List.mem_append_right _ (List.mem_append_right _ (mem_pinsAt hb e)))
        ⟨z.1, z.2.1⟩
      refine ⟨m', hm, i + 1, H', (I'.unpinned (pins := [])).weak (by rw [← hl, ← hw8, wipe_length]) (fun j v e => ?_), T.keep _ _ _ st7 fun b hb o e => (held b hb o e).1, fun b hb => ?_, w'⟩
      · rw [← hw8] at e
        exact hk j v (wipe_some e).2 (wipe_some e).1
      · obtain ⟨o, e, _⟩ := T.obj _ _ st7 b hb
        exact (held b hb o e).2
    cases b with
    | false =>
      rw [if_neg Bool.false_ne_true] at q9 ⊢
      exact turned σ8 H9 t4 I9 rfl (fun _ _ _ e => e) q9
    | true =>
      rw [if_pos rfl] at q9 ⊢
      exact pe _ t4 σ8 H9 Nx _ I9 q9 turned
/-- as a value -/
theorem pe_dm {kx vx tg iter : Expr} {ifs : List Expr} {rest : List Comprehension} {scope : Scope} {own : List (Str × Nat)} {pos : Pos} {wi : TI} {g : TG} {tt : TT} {Em : TEm} {o0 : HO} {emit : Addr → Env → Sem Unit} (hc : X.calm = true) (hN : X.N.Nodup) (hi : PI X tg iter wi) (ok : BlkOk X.N X.env.scope scope own)
    (hg : ∀ (s : Shared) (H : Hp) (C : Addr) (cl : List (Str × Addr)) (fp : List Addr), PG (X.blk s H scope (compEnvC scope cl C X.env) fp) tg g)
    (ht : ∀ (s : Shared) (H : Hp) (C : Addr) (cl : List (Str × Addr)) (fp : List Addr), PTs (X.blk s H scope (compEnvC scope cl C X.env) fp) ifs tt)
    (f0 : Fresh0 X o0) (hem : EmOk X scope own emit Em)
    (het : ∀ (it : Value) (D : Addr) (env : Env), compTurn (.DictComp kx vx (⟨tg, iter, ifs, 0⟩ :: rest) scope pos) 0 it (.ref D) env = (do
      standAt iter.pos
      match ← pyNext it with
      | none => pure (.done .next)
      | some v =>
        letOwnedTupleGo tg it v
        assign tg env v
        let mut ok := true
        for c in ifs do
          if ok then ok ← isTrue c env (eval c env)
        if ok then emit D env
        again (.compLoop (.DictComp kx vx (⟨tg, iter, ifs, 0⟩ :: rest) scope pos) 0 it (.ref D) env)))
    (hs : ∀ x, foldedSetIterable iter X.env x = pure x := by intro _; rfl) :
    PE X (.DictComp kx vx (⟨tg, iter, ifs, 0⟩ :: rest) scope pos) (tDm wi g tt Em o0 (own.map (·.2))) := by
  refine ⟨fun pins s σ H Q I h => ?_⟩
  rw [arm_eval_DictComp]
  refine dm_core hc hN I hi ok hg ht f0 hem het hs h fun D C s' m H' I' q hn f => ⟨m, hn, fun h2 sb => ?_⟩
  obtain ⟨z0, z1, z2, z3, z4, z5⟩ := f
  exact ⟨.ref D, H', I'.turned (t' := s'.toks) (fun b o hb e => (sb.2 b hb).trans e) z0 z1 z3 z4 z5, rfl, q⟩
/-! ### one clause -/
def emit1 (kx vx : Expr) : Addr → Env → Sem Unit := fun D env => do
  let kv ← eval kx env
  let vv ← holding [kv] (eval vx env)
  standAt { kx.pos with endLine := vx.pos.endLine, endCol := vx.pos.endCol }
  holding [kv, vv] (dictSet D kv vv)
def Em1 (tk tv : TE) : TEm := fun D σ H Nx => tk σ H fun y H1 => tv σ H1 fun z H2 => ∃ H3, DPut H2 D y z H3 ∧ Nx H3
theorem em1_ok {kx vx : Expr} {scope : Scope} {own : List (Str × Nat)} {tk tv : TE} (hu : X.A.units < cLine)
    (hk : ∀ (s : Shared) (H : Hp) (C : Addr) (cl : List (Str × Addr)) (fp : List Addr), PE (X.blk s H scope (compEnvC scope cl C X.env) fp) kx tk)
    (hv : ∀ (s : Shared) (H : Hp) (C : Addr) (cl : List (Str × Addr)) (fp : List Addr), PE (X.blk s H scope (compEnvC scope cl C X.env) fp) vx tv) : EmOk X scope own (emit1 kx vx) (Em1 tk tv) := by
  intro s H C cl fp pins s9 σ8 H9 D Nx Fin I9 em fin
  unfold emit1
  refine wpAny_bind (thnF ((hk s H C cl fp).run _ s9 σ8 H9 _ I9 em) fun kv t1 ⟨y, H10, I10, r10, q10⟩ => ?_)
  refine wpAny_bind (wpAny_holding (thnF ((hv s H C cl fp).run _ t1 σ8 H10 _ I10 q10) fun vv t2 ⟨z, H11, I11, r11, H12, put, nx⟩ => ?_))
  refine wpAny_bind (wpAny_standAt (wpAny_holding ?_))
  exact d_putC (X := X.blk s H scope (compEnvC scope cl C X.env) fp) hu I11 put r10 r11 fun t3 I12 => fin σ8 H12 t3 I12 rfl (fun _ _ _ e => e) nx
theorem pe_dm1 {kx vx tg iter : Expr} {ifs : List Expr} {scope : Scope} {own : List (Str × Nat)} {pos : Pos} {wi : TI} {g : TG} {tt : TT} {tk tv : TE} {o0 : HO} (hc : X.calm = true) (hN : X.N.Nodup) (hu : X.A.units < cLine) (f0 : Fresh0 X o0) (hi : PI X tg iter wi) (ok : BlkOk X.N X.env.scope scope own)
    (hg : ∀ (s : Shared) (H : Hp) (C : Addr) (cl : List (Str × Addr)) (fp : List Addr), PG (X.blk s H scope (compEnvC scope cl C X.env) fp) tg g)
    (ht : ∀ (s : Shared) (H : Hp) (C : Addr) (cl : List (Str × Addr)) (fp : List Addr), PTs (X.blk s H scope (compEnvC scope cl C X.env) fp) ifs tt)
    (hk : ∀ (s : Shared) (H : Hp) (C : Addr) (cl : List (Str × Addr)) (fp : List Addr), PE (X.blk s H scope (compEnvC scope cl C X.env) fp) kx tk)
    (hv : ∀ (s : Shared) (H : Hp) (C : Addr) (cl : List (Str × Addr)) (fp : List Addr), PE (X.blk s H scope (compEnvC scope cl C X.env) fp) vx tv)
    (hs : ∀ x, foldedSetIterable iter X.env x = pure x := by intro _; rfl) :
    PE X (.DictComp kx vx [⟨tg, iter, ifs, 0⟩] scope pos) (tDm wi g tt (Em1 tk tv) o0 (own.map (·.2))) :=
  pe_dm hc hN hi ok hg ht f0 (em1_ok hu hk hv) (fun _ _ _ => rfl) hs
/-- over a tuple that stays -/
theorem dm_tup {K : PySem.W.Frag} {a : Addr} {xs : List V} {g : TG} {tt : TT} {Em : TEm} {vs : List Nat} {σ : L2.St} {H1 : Hp} {D : Addr} {o0 : HO} {Qd : Hp → Prop} (Pv : Nat → Hp → Prop) (h0 : Pv 0 (upd H1 D o0)) (hl : ∀ i H, i ≤ xs.length → Pv i H → SqT K H a xs)
    (hs : ∀ i x H, xs[i]? = some x → Pv i H → g x (wipe σ vs) H fun σ2 H2 => wipe σ2 vs = wipe σ vs ∧ tt σ2 H2 fun b H3 => if b = true then Em D σ2 H3 (Pv (i + 1)) else Pv (i + 1) H3) (hd : ∀ H, Pv xs.length H → Qd H) :
    ∃ W : Nat → Nat → Hp → Prop, (∃ m, W 0 m (upd H1 D o0)) ∧ ∀ i m H, W i m H →
      ((Itt K a).stop i H ∧ Qd H) ∨ ((Itt K a).go i H ∧ ∃ Nx : Hp → Prop, (∀ H', Nx H' → ∃ m', m' < m ∧ W (i + 1) m' H') ∧ ∀ x H', (Itt K a).yld i H x H' → g x (wipe σ vs) H' fun σ2 H2 => wipe σ2 vs = wipe σ vs ∧ tt σ2 H2 fun b H3 =>
        if b = true then Em D σ2 H3 Nx else Nx H3) := by
  refine ⟨fun i m H => m = xs.length - i ∧ i ≤ xs.length ∧ Pv i H, ⟨xs.length, by simp, Nat.zero_le _, h0⟩, ?_⟩
  rintro i m H ⟨rfl, hi, p⟩
  have q := hl i H hi p
  rcases Nat.lt_or_ge i xs.length with hlt | hge
  · refine .inr ⟨⟨xs, xs[i], q, by simp [hlt]⟩, Pv (i + 1), fun H' p' => ⟨xs.length - (i + 1), by omega, rfl, hlt, p'⟩, fun x H' y => ?_⟩
    obtain ⟨e, y⟩ := y
    subst e
    exact hs i x _ (y xs q) p
  · have e : i = xs.length := by omega
    subst e
    exact .inl ⟨⟨xs, q, Nat.le_refl _⟩, hd H p⟩
end
end OH
end
section
set_option Elab.async false
set_option linter.all false
set_option maxRecDepth 100000
set_option maxHeartbeats 4000000
/-! The judge of bodies: both ways of counting, what it is made of. -/
namespace OH
open PySem PySem.Spec PyProof.Rows L2
def partJ (C : BCx) (x : PyData) : Bool := decide (0 ≤ leftB C 12 x 200)
def spPart (CB : Addr) : Sp := fun vs H Q _ => ∃ (Z : Addr → Prop) (p d ia ba nd pa : Addr) (C : BCx) (v : V) (x : PyData) (n : Nat), vs = [.ref p, v] ∧ BcAt CB H p d ia ba nd pa C ∧ (∀ z m, C.pars.lookup z = some m → m ≤ 4) ∧ DA Z H v x ∧
  NmAt H nd n ∧ n ≤ 800000 ∧ ∀ H', Kept [nd] H H' → NmAt H' nd (n + 1000) → Q (.bl (partJ C x)) H'
def spAllow (CB : Addr) : Sp := fun vs H Q _ => ∃ (p d ia ba nd pa : Addr) (C : BCx) (a b : Addr) (z : Str) (v : V) (xs ys : List V), vs = [.ref p, .ref a] ∧ BcAt CB H p d ia ba nd pa C ∧ C.pars.length ≤ 100 ∧ H a = some (.tup (.str z :: .ref b :: xs)) ∧ H b = some (.tup ys) ∧
  ∀ H', Kept [pa] H H' → BcAt CB H' p d ia ba nd pa { C with pars := (z, ys.length) :: C.pars } → Q .non H'
def impP (d : PyData) : Str × Str := (strD (nthD d 0), strD (nthD d 1))
def ctx0 (i b : PyData) : BCx := ⟨(itemsD i).map impP, (itemsD b).map nameB, []⟩
theorem putAll_val {κ : Type} [DecidableEq κ] : ∀ (ks : List κ) (kv : List (κ × V)) (k : κ), (valV (ks.foldl (fun kv x => putK kv x (V.bl true)) kv) k).isSome = (decide (k ∈ ks) || (valV kv k).isSome)
  | [], kv, k => rfl
  | x :: ks, kv, k => by
    rw [List.foldl_cons, putAll_val ks, valV_put]
    by_cases e : k = x
    · rw [if_pos e, decide_eq_true (show k ∈ x :: ks by rw [e]; exact List.mem_cons_self)]
      exact Bool.or_true _
    · rw [if_neg e]
      congr 1
      exact decide_eq_decide.mpr ⟨List.mem_cons_of_mem _, fun m => (List.mem_cons.mp m).resolve_left e⟩
theorem putAll_len {κ : Type} [DecidableEq κ] : ∀ (ks : List κ) (kv : List (κ × V)), (ks.foldl (fun kv x => putK kv x (V.bl true)) kv).length ≤ kv.length + ks.length
  | [], kv => Nat.le_refl _
  | x :: ks, kv => by
    have h1 := putAll_len ks (putK kv x (V.bl true))
    have h2 := length_putK kv x (V.bl true)
    rw [List.foldl_cons, List.length_cons]
    omega
theorem pairs_imp {own : Str} : ∀ {ds : List PyData}, ds.all (impJ own) = true → ds.map pairS = (ds.map impP).map fun q => [q.1, q.2]
  | [], _ => rfl
  | d :: ds, e => by
    rw [List.all_cons, Bool.and_eq_true] at e
    obtain ⟨x, y, rfl, _⟩ := impJ_two e.1
    rw [List.map_cons, List.map_cons, List.map_cons, ← pairs_imp e.2]
    rfl
def spBInit (CB : Addr) : Sp := fun vs H Q _ => ∃ (Z : Addr → Prop) (p d nd : Addr) (n : Nat) (v u : V) (i b : PyData) (own : Str), vs = [.ref p, v, u, .ref nd] ∧ H p = some (.ins CB d []) ∧ DA Z H v i ∧ DA Z H u b ∧ NmAt H nd n ∧ impsJ own i = true ∧ blocksJ b = true ∧
  ∀ ia ba pa H', Kept [p] H H' → BcAt CB H' p d ia ba nd pa (ctx0 i b) → H pa = none → Q .non H'
section
variable {P : Program} {w : World} {K : PySem.W.Frag} {mg : Str → Option Value} {base : Heap} {CB aO : Addr}
theorem ok_lefts {f g : Addr} {fd gd : FuncData} (F : Fun K "left_value" "BodyCheck.left_value" s_BodyCheck_left_value f fd) (G : Fun K "left_behind" "BodyCheck.left_behind" s_BodyCheck_left_behind g gd) (T : Txt K mg) (B : TxB K CB) (O : TxO K mg aO)
    (mF : Meth K CB "left_value" f) (bF : Binds K fd ["self", "value", "left", "depth"] []) (mG : Meth K CB "left_behind" g) (bG : Binds K gd ["self", "body", "left", "depth"] [])
    (DN : DefF P w K mg base CX0 2 "is_known_name" ["value", "names"] spKnown) (MB : MetF P w K mg base CX0 1 CB "has_block" ["self", "value"] (spHasB CB)) (MP : MetF P w K mg base CX0 1 CB "has_params" ["self", "function", "arguments"] (spHasP CB))
    (MI : MetF P w K mg base CX0 1 CB "has_import" ["self", "room", "door"] (spHasI CB)) :
    ∀ dp : Nat, FnOk P w K mg base CX0 (dp + 3) f fd ["self", "value", "left", "depth"] (spLV CB dp) ∧ FnOk P w K mg base CX0 (dp + 3) g gd ["self", "body", "left", "depth"] (spLB CB dp)
  | 0 => by
    have v0 : FnOk P w K mg base CX0 2 f fd ["self", "value", "left", "depth"] (spPV CB 0) := F.ok sc_left_value (fun vs H Q E h => h.elim) (fun cdv A outer s H vs Q E hr h => h.elim)
    have b0 : FnOk P w K mg base CX0 2 g gd ["self", "body", "left", "depth"] (spPB CB 0) := G.ok sc_left_behind (fun vs H Q E h => h.elim) (fun cdv A outer s H vs Q E hr h => h.elim)
    exact ⟨ok_left_value 0 F T B O DN MB MP MI ⟨f, fd, v0, mF, bF⟩, ok_left_behind 0 G T B O DN MB ⟨f, fd, v0, mF, bF⟩ ⟨g, gd, b0, mG, bG⟩⟩
  | dp + 1 => by
    obtain ⟨v0, b0⟩ := ok_lefts F G T B O mF bF mG bG DN MB MP MI dp
    exact ⟨ok_left_value (dp + 1) F T B O DN MB MP MI ⟨f, fd, v0, mF, bF⟩, ok_left_behind (dp + 1) G T B O DN MB ⟨f, fd, v0, mF, bF⟩ ⟨g, gd, b0, mG, bG⟩⟩
theorem sc_is_part_body : FnScope ["self", "body"] ["self", "body"] (defScope s_BodyCheck_is_part_body) := ⟨rfl, rfl, rfl, by decide +kernel, rfl, by decide +kernel, by decide +kernel⟩
theorem ok_is_part_body {f : Addr} {fd : FuncData} (F : Fun K "is_part_body" "BodyCheck.is_part_body" s_BodyCheck_is_part_body f fd) (B : TxB K CB) (gN : ∃ t, mg "MOST_NODES" = some (.int 200 t))
    (MD : MetF P w K mg base CX0 15 CB "left_behind" ["self", "body", "left", "depth"] (spLB CB 12)) : FnOk P w K mg base CX0 16 f fd ["self", "body"] (spPart CB) := by
  refine F.ok sc_is_part_body (fun vs H Q E h => ?_) (fun cdv A outer s H vs Q E hr h => ?_)
  · obtain ⟨Z, p, d, ia, ba, nd, pa, C, v, x, n, rfl, _⟩ := h
    rfl
  · obtain ⟨Z, p, d, ia, ba, nd, pa, C, v, x, n, rfl, hB, h4, hv, hn, n9, k⟩ := h
    obtain ⟨tN, gN⟩ := gN
    refine ⟨_, pss_one (ps_ret (pe_cmpR op_ge (pe_mD (pv 0) B.cl MD hr pass0 (pa_cons (pv 1) (pa_cons (pe_glob (v := .int 200) rfl gN ⟨tN, rfl⟩) (pa_cons pe_int pa_nil)))) pe_int (nomark _))), ?_⟩
    refine ⟨_, rfl, p, d, _, rfl, hB.hp, rfl, _, rfl, ?_⟩
    refine ⟨Z, p, d, ia, ba, nd, pa, C, v, x, 200, n, rfl, hB, h4, hv, hn, Nat.le_refl 12, by show n + 5 * 200 ≤ _; omega, fun H1 c1 n1 => ?_⟩
    refine ⟨_, _, rfl, rfl, ?_⟩
    exact k H1 c1 (n1.le (by show n + 5 * (200 - _) ≤ _; omega))
theorem sc_allow : FnScope ["self", "function"] ["self", "function"] (defScope s_BodyCheck_allow) := ⟨rfl, rfl, rfl, by decide +kernel, rfl, by decide +kernel, by decide +kernel⟩
theorem ok_allow {f : Addr} {fd : FuncData} (F : Fun K "allow" "BodyCheck.allow" s_BodyCheck_allow f fd) (T : Txt K mg) (B : TxB K CB) : FnOk P w K mg base CX0 1 f fd ["self", "function"] (spAllow CB) := by
  refine F.ok sc_allow (fun vs H Q E h => ?_) (fun cdv A outer s H vs Q E hr h => ?_)
  · obtain ⟨p, d, ia, ba, nd, pa, C, a, b, z, v, xs, ys, rfl, _⟩ := h
    rfl
  · obtain ⟨p, d, ia, ba, nd, pa, C, a, b, z, v, xs, ys, rfl, hB, l100, ha, hb, k⟩ := h
    refine ⟨_, pss_one (ps_asg (pe_callB call_len_seq (by rfl) T.nLen PySem.boot_len (pa_cons (pe_ix ix_tup (pv 1) pe_int (fun _ _ => rfl)) pa_nil)) (pg_sub (pe_fld (pv 0) rfl) (pe_ix ix_tup (pv 1) pe_int (fun _ _ => rfl)) (set_dict (Nat.lt_of_le_of_lt (Nat.add_le_add_left (by decide) _) (Room_u65 hr))))), ?_⟩
    obtain ⟨kq, q1, q2, q3⟩ := hB.hq
    have sL := sizeLine_eq
    refine ⟨_, rfl, a, _, 1, _, rfl, rfl, SqT.of ha, atI_nat (j := 1) rfl, b, ys, rfl, .inr (SqT.of hb), ?_⟩
    refine ⟨_, rfl, p, CB, d, _, _, rfl, hB.hp, B.cl, B.nP, rfl, ?_⟩
    refine ⟨_, rfl, a, _, 0, _, rfl, rfl, SqT.of ha, atI_nat (j := 0) rfl, pa, _, rfl, DPut.k (k := Sum.inr z) q1 (by omega), ?_⟩
    have np : p ≠ pa := ne_of hB.hp q1 (fun z => nomatch z)
    obtain ⟨ki, i1, i2⟩ := hB.hi
    obtain ⟨kb, b1, b2⟩ := hB.hb
    have ni : ia ≠ pa := ne_of i1 q1 (fun z => nomatch z)
    refine k _ (Kept.refl.upd (List.mem_singleton.mpr rfl)) ⟨(upd_ne np).trans hB.hp, ⟨ki, (upd_ne ni).trans i1, i2⟩, ?_, ⟨_, upd_same, ?_, fun y => ?_⟩, hB.nb, hB.nq, hB.nbq⟩
    · exact ⟨kb, (upd_ne hB.nbq).trans b1, b2⟩
    · have := length_putK kq (Sum.inr z) (V.int ((ys.length : Nat) : Int))
      show (putK kq (Sum.inr z) (V.int ((ys.length : Nat) : Int))).length ≤ C.pars.length + 1
      omega
    · rw [valV_put]
      show _ = (((z, ys.length) :: C.pars).lookup y).map _
      rw [List.lookup_cons]
      by_cases e : y = z
      · subst e
        rw [if_pos rfl, beq_self_eq_true]
        rfl
      · rw [if_neg (fun q => e (by injection q)), show (y == z) = false from beq_eq_false_iff_ne.mpr e, q3 y]
abbrev nBI : List Str := ["self", "imports", "blocks", "names", "pair", "block"]
theorem sc_binit : FnScope nBI ["self", "imports", "blocks", "names"] (defScope s_BodyCheck___init__) := ⟨rfl, rfl, rfl, by decide +kernel, rfl, by decide +kernel, by decide +kernel⟩
theorem ok_binit {f : Addr} {fd : FuncData} (F : Fun K "__init__" "BodyCheck.__init__" s_BodyCheck___init__ f fd) (B : TxB K CB) : FnOk P w K mg base CX0 1 f fd ["self", "imports", "blocks", "names"] (spBInit CB) := by
  refine F.ok sc_binit (fun vs H Q E h => ?_) (fun cdv A outer s H vs Q E hr h => ?_)
  · obtain ⟨Z, p, d, nd, n, v, u, i, b, own, rfl, _⟩ := h
    rfl
  · obtain ⟨Z, p, d, nd, n, v, u, i, b, own, rfl, hp, hv, hu, hn, ji, jb, k⟩ := h
    have nd0 := sc_binit.nd
    have hu5 := Room_u65 hr
    have hu0 := Nat.lt_of_le_of_lt (Nat.le_add_right _ _) hu5
    refine ⟨_, pss_cons (ps_fld (pv 0) (pe_dm1 (own := [("pair", 4)]) (g := gName 4) (tt := tYes) (tk := tVar 4) (tv := tC (.bl true)) rfl nd0 hu0 fresh_t (pi_tup (pv 1)) (blkOk_by (own := [("pair", 4)]) (N := nBI) (sc := defScope s_BodyCheck___init__) (by decide +kernel))
        (fun _ _ _ _ _ => pg_name (i := 4) nd0 rfl (Or.inl rfl)) (fun _ _ _ _ _ => pts_nil) (fun _ _ _ _ _ => pv 4) (fun _ _ _ _ _ => pe_bl)) rfl)
      (pss_cons (ps_fld (pv 0) (pe_dm1 (own := [("block", 5)]) (g := gName 5) (tt := tYes) (tk := tOp (rIxT K) (tVar 5) (tC (.int 0))) (tv := tC (.bl true)) rfl nd0 hu0 fresh_k (pi_tup (pv 2)) (blkOk_by (own := [("block", 5)]) (N := nBI) (sc := defScope s_BodyCheck___init__) (by decide +kernel))
        (fun _ _ _ _ _ => pg_name (i := 5) nd0 rfl (Or.inl rfl)) (fun _ _ _ _ _ => pts_nil) (fun _ _ _ _ _ => pe_ix ix_tup (pv 5) pe_int (fun _ _ => rfl)) (fun _ _ _ _ _ => pe_bl)) rfl)
      (pss_cons (ps_fld (pv 0) (pv 3) rfl)
      (pss_one (ps_fld (pv 0) pe_dnewK rfl)))), ?_⟩
    unfold impsJ at ji
    unfold blocksJ at jb
    rw [Bool.and_eq_true, Bool.and_eq_true] at ji jb
    obtain ⟨ji1, ji2, _⟩ := ji
    obtain ⟨jb1, jb2, _⟩ := jb
    obtain ⟨is, rfl, i1, i2⟩ := tupJ_iff ji1
    obtain ⟨bs, rfl, b1, b2⟩ := tupJ_iff jb1
    obtain ⟨a, xs, rfl, ha, hs⟩ := hv.tupE
    obtain ⟨c, ys, rfl, hc, hbs⟩ := hu.tupE
    obtain ⟨ks, rfl, t1, t2⟩ := hs.imps ji2
    have sL := sizeLine_eq
    have el := hs.len
    have el2 := hbs.len
    rw [List.length_map] at el
    have at1 : ∀ {q : Addr} {zs : List V}, H q = some (.tup zs) → q ≠ p := fun h => ne_of h hp (fun z => nomatch z)
    -- the imports
    refine ⟨_, rfl, a, rfl, ⟨_, SqT.of ha⟩, fun ia nia => ?_⟩
    have iap : ia ≠ p := fun z => by rw [z, hp] at nia; cases nia
    refine dm_tup (xs := ks.map fun p => V.ref p.1) (fun j H' => H' = upd H ia (.dT (((ks.take j).map fun p => p.2.map (Sum.inr : Str → Key)).foldl (fun kv x => putK kv x (V.bl true)) []))) rfl (fun j H' _ e => by rw [e]; exact SqT.of (sadd (Same.refl H) nia a _ ha)) (fun j x H' hx e => ?_) (fun H1 e => ?_)
    · subst e
      rw [List.getElem?_map] at hx
      obtain ⟨q, hq, rfl⟩ := Option.map_eq_some_iff.mp hx
      have il := (List.getElem?_eq_some_iff.mp hq).1
      have et : (((ks.take (j + 1)).map fun p => p.2.map (Sum.inr : Str → Key)).foldl (fun kv x => putK kv x (V.bl true)) []) = putK (((ks.take j).map fun p => p.2.map (Sum.inr : Str → Key)).foldl (fun kv x => putK kv x (V.bl true)) []) (q.2.map Sum.inr) (V.bl true) := by
        rw [List.take_add_one, hq, List.map_append, List.foldl_append]
        rfl
      have lk := putAll_len ((ks.take j).map fun p => p.2.map (Sum.inr : Str → Key)) []
      rw [List.length_map, List.length_take] at lk
      have hkey : H q.1 = some (.tup ((q.2.map (Sum.inr : Str → Key)).map kV)) := by
        rw [List.map_map]
        exact t1 q (List.mem_of_getElem? hq)
      refine ⟨rfl, _, rfl, _, DPut.t upd_same (sadd (Same.refl H) nia _ _ hkey) (Nat.lt_of_le_of_lt lk (by rw [sL]; show 0 + _ < _; omega)), ?_⟩
      rw [et, upd_upd]
    subst e
    rw [List.length_map, List.take_length]
    refine ⟨_, rfl, p, CB, d, _, rfl, (upd_ne iap.symm).trans hp, B.cl, B.nI, (by show 0 < 1000; decide), ?_⟩
    generalize hK : ((ks.map fun p => p.2.map (Sum.inr : Str → Key)).foldl (fun kv x => putK kv x (V.bl true)) ([] : List (List Key × V))) = kvi
    have f1 : putF "imports" (V.ref ia) ([] : List (Str × V)) = [(("imports" : Str), V.ref ia)] := rfl
    rw [f1]
    have hp1 : upd (upd H ia (.dT kvi)) p (.ins CB d [("imports", .ref ia)]) p = some (.ins CB d [("imports", .ref ia)]) := upd_same
    have hi1 : upd (upd H ia (.dT kvi)) p (.ins CB d [("imports", .ref ia)]) ia = some (.dT kvi) := (upd_ne iap).trans upd_same
    have c1 : Kept [p] H (upd (upd H ia (.dT kvi)) p (.ins CB d [("imports", .ref ia)])) := (Kept.refl.new nia).upd (List.mem_singleton.mpr rfl)
    have fr1 : ∀ q, upd (upd H ia (.dT kvi)) p (.ins CB d [("imports", .ref ia)]) q = none → H q = none ∧ q ≠ p ∧ q ≠ ia := fun q e => by
      have n1 : q ≠ p := fun z => by rw [z, upd_same] at e; cases e
      rw [upd_ne n1] at e
      have n2 : q ≠ ia := fun z => by rw [z, upd_same] at e; cases e
      rw [upd_ne n2] at e
      exact ⟨e, n1, n2⟩
    generalize upd (upd H ia (.dT kvi)) p (.ins CB d [("imports", .ref ia)]) = H1 at hp1 hi1 c1 fr1 ⊢
    -- the blocks
    have hc1 := c1 c _ hc (fun m => at1 hc (List.mem_singleton.mp m))
    refine ⟨_, rfl, c, rfl, ⟨_, SqT.of hc1⟩, fun ba nba => ?_⟩
    obtain ⟨nba0, bap, bai⟩ := fr1 ba nba
    have fst : ∀ {i : Nat} {v : V}, ys[i]? = some v → _ := fun {i v} hv => DAs.fst blockJ_fst hbs jb2 hv
    refine dm_tup (xs := ys) (fun j H' => H' = upd H1 ba (.dK (((bs.take j).map fun d => (Sum.inr (nameB d) : Key)).foldl (fun kv x => putK kv x (V.bl true)) []))) rfl (fun j H' _ e => by rw [e]; exact SqT.of (sadd (Same.refl H1) nba c _ hc1)) (fun j x H' hx e => ?_) (fun H2 e => ?_)
    · subst e
      obtain ⟨q, z, zs, es, rfl, hq, hd⟩ := fst hx
      have il := (List.getElem?_eq_some_iff.mp hx).1
      have et : (((bs.take (j + 1)).map fun d => (Sum.inr (nameB d) : Key)).foldl (fun kv x => putK kv x (V.bl true)) []) = putK (((bs.take j).map fun d => (Sum.inr (nameB d) : Key)).foldl (fun kv x => putK kv x (V.bl true)) []) (Sum.inr z) (V.bl true) := by
        rw [List.take_add_one, hd, List.map_append, List.foldl_append]
        rfl
      have lk := putAll_len ((bs.take j).map fun d => (Sum.inr (nameB d) : Key)) []
      rw [List.length_map, List.length_take] at lk
      have hq2 := sadd (o := .dK (((bs.take j).map fun d => (Sum.inr (nameB d) : Key)).foldl (fun kv x => putK kv x (V.bl true)) [])) (Same.refl H1) nba q _ (c1 q _ hq (fun m => at1 hq (List.mem_singleton.mp m)))
      refine ⟨rfl, _, rfl, q, _, 0, _, rfl, rfl, SqT.of hq2, atI_nat (j := 0) rfl, _, DPut.k (k := Sum.inr z) upd_same (Nat.lt_of_le_of_lt lk (by rw [sL]; show 0 + _ < _; omega)), ?_⟩
      rw [et, upd_upd]
    subst e
    rw [el2, List.take_length]
    generalize hKb : ((bs.map fun d => (Sum.inr (nameB d) : Key)).foldl (fun kv x => putK kv x (V.bl true)) ([] : List (Key × V))) = kvb
    refine ⟨_, rfl, p, CB, d, _, rfl, (upd_ne bap.symm).trans hp1, B.cl, B.nB, (by show 1 < 1000; decide), ?_⟩
    refine ⟨_, rfl, _, rfl, p, CB, d, _, rfl, upd_same, B.cl, B.nN, (by show 2 < 1000; decide), ?_⟩
    have f2 : putF "names" (V.ref nd) (putF "blocks" (V.ref ba) ([(("imports" : Str), V.ref ia)] : List (Str × V))) = [(("imports" : Str), V.ref ia), (("blocks" : Str), V.ref ba), (("names" : Str), V.ref nd)] := rfl
    rw [f2, upd_upd]
    have hp2 : upd (upd H1 ba (.dK kvb)) p (.ins CB d [("imports", .ref ia), ("blocks", .ref ba), ("names", .ref nd)]) p = some (.ins CB d [("imports", .ref ia), ("blocks", .ref ba), ("names", .ref nd)]) := upd_same
    have hi2 : upd (upd H1 ba (.dK kvb)) p (.ins CB d [("imports", .ref ia), ("blocks", .ref ba), ("names", .ref nd)]) ia = some (.dT kvi) := (upd_ne iap).trans ((upd_ne bai.symm).trans hi1)
    have hb2 : upd (upd H1 ba (.dK kvb)) p (.ins CB d [("imports", .ref ia), ("blocks", .ref ba), ("names", .ref nd)]) ba = some (.dK kvb) := (upd_ne bap).trans upd_same
    have c2 : Kept [p] H (upd (upd H1 ba (.dK kvb)) p (.ins CB d [("imports", .ref ia), ("blocks", .ref ba), ("names", .ref nd)])) := (c1.new nba).upd (List.mem_singleton.mpr rfl)
    have fr2 : ∀ q, upd (upd H1 ba (.dK kvb)) p (.ins CB d [("imports", .ref ia), ("blocks", .ref ba), ("names", .ref nd)]) q = none → H q = none ∧ q ≠ p ∧ q ≠ ia ∧ q ≠ ba := fun q e => by
      have n1 : q ≠ p := fun z => by rw [z, upd_same] at e; cases e
      rw [upd_ne n1] at e
      have n2 : q ≠ ba := fun z => by rw [z, upd_same] at e; cases e
      rw [upd_ne n2] at e
      obtain ⟨e1, e2, e3⟩ := fr1 q e
      exact ⟨e1, e2, e3, n2⟩
    generalize upd (upd H1 ba (.dK kvb)) p (.ins CB d [("imports", .ref ia), ("blocks", .ref ba), ("names", .ref nd)]) = H2 at hp2 hi2 hb2 c2 fr2 ⊢
    intro pa npa
    obtain ⟨npa0, pap, pai, pab⟩ := fr2 pa npa
    refine ⟨_, rfl, p, CB, d, _, rfl, (upd_ne pap.symm).trans hp2, B.cl, B.nP, (by show 3 < 1000; decide), ?_⟩
    have f3 : putF "params" (V.ref pa) ([(("imports" : Str), V.ref ia), (("blocks" : Str), V.ref ba), (("names" : Str), V.ref nd)] : List (Str × V)) = bcf ia ba nd pa := rfl
    rw [f3]
    obtain ⟨nks, hnd, _⟩ := hn
    refine k ia ba pa _ ((c2.new npa).upd (List.mem_singleton.mpr rfl)) ⟨upd_same, ⟨kvi, (upd_ne iap).trans ((upd_ne pai.symm).trans hi2), fun x y => ?_⟩, ⟨kvb, (upd_ne bap).trans ((upd_ne pab.symm).trans hb2), fun z => ?_⟩, ⟨[], (upd_ne pap).trans upd_same, Nat.le_refl 0, fun z => rfl⟩, fun z => ?_, fun z => ?_, pab.symm⟩ npa0
    · rw [← hK, putAll_val]
      show (_ || false) = _
      rw [Bool.or_false]
      refine decide_eq_decide.mpr ?_
      have e1 : (ks.map fun p => p.2.map (Sum.inr : Str → Key)) = (is.map impP).map fun q => [Sum.inr q.1, Sum.inr q.2] := by
        have e2 := congrArg (fun l => l.map fun x : List Str => x.map (Sum.inr : Str → Key)) (t2.trans (pairs_imp ji2))
        simpa [List.map_map, Function.comp_def] using e2
      rw [e1]
      constructor
      · intro m
        obtain ⟨q, hq, e2⟩ := List.mem_map.mp m
        injection e2 with e3 e4
        injection e4 with e5
        injection e3 with e3
        injection e5 with e5
        rw [← e3, ← e5]
        exact hq
      · intro m
        exact List.mem_map.mpr ⟨_, m, rfl⟩
    · rw [← hKb, putAll_val]
      show (_ || false) = _
      rw [Bool.or_false]
      refine decide_eq_decide.mpr ⟨fun m => ?_, fun m => ?_⟩
      · obtain ⟨q, hq, e2⟩ := List.mem_map.mp m
        injection e2 with e2
        rw [← e2]
        exact List.mem_map.mpr ⟨q, hq, rfl⟩
      · obtain ⟨q, hq, rfl⟩ := List.mem_map.mp m
        exact List.mem_map.mpr ⟨q, hq, rfl⟩
    · rw [z, hnd] at nba0
      cases nba0
    · rw [z, hnd] at npa0
      cases npa0
end
end OH
end
section
set_option Elab.async false
set_option linter.all false
set_option maxRecDepth 100000
set_option maxHeartbeats 4000000
/-! Rooms judged. -/
namespace OH
open PySem PySem.Spec PyProof.Rows L2
def addF (C : BCx) (f : PyData) : BCx := { C with pars := (nameB f, (itemsD (nthD f 1)).length) :: C.pars }
def bodiesJ (C : BCx) : List PyData → List PyData → Bool
  | [], ds => ds.all fun d => partJ C (nthD d 3)
  | f :: fs, ds => partJ C (nthD f 2) && bodiesJ (addF C f) fs ds
def roomJ (d : PyData) : Bool := tupJ 5 5 d && (nameJ (nthD d 0) && (impsJ (strD (nthD d 0)) (nthD d 1) && (blocksJ (nthD d 2) && (headsJ (nthD d 3) (nthD d 4) && bodiesJ (ctx0 (nthD d 1) (nthD d 2)) (itemsD (nthD d 3)) (itemsD (nthD d 4))))))
theorem Kept.over {S T : List Addr} {H H1 H2 : Hp} (a : Kept S H H1) (b : Kept T H1 H2) (f : ∀ q ∈ T, H q = none ∨ q ∈ S) : Kept S H H2 := fun q o e n => b q o (a q o e n) fun m => (f q m).elim (fun z => by rw [z] at e; cases e) n
theorem funHJ_three {d : PyData} (h : funHJ d = true) : ∃ (z : Str) (ps : List PyData) (b : PyData), d = .tuple [.str z, .tuple ps, b] ∧ ps.length ≤ 4 := by
  unfold funHJ at h
  rw [Bool.and_eq_true, Bool.and_eq_true, Bool.and_eq_true] at h
  obtain ⟨h1, h2, h3, _⟩ := h
  obtain ⟨ds, rfl, l1, l2⟩ := tupJ_iff h1
  match ds, l1, l2 with
  | [x, y, b], _, _ =>
    obtain ⟨z, e⟩ := nameJ_iff h2
    cases (show x = .str z from e)
    obtain ⟨ps, e2, m1, m2⟩ := tupJ_iff h3
    cases (show y = .tuple ps from e2)
    exact ⟨z, ps, b, rfl, by omega⟩
theorem doorHJ_four {d : PyData} (h : doorHJ d = true) : ∃ x y z b : PyData, d = .tuple [x, y, z, b] := by
  unfold doorHJ at h
  rw [Bool.and_eq_true] at h
  obtain ⟨ds, rfl, l1, l2⟩ := tupJ_iff h.1
  match ds, l1, l2 with
  | [x, y, z, b], _, _ => exact ⟨x, y, z, b, rfl⟩
/-- behind some functions -/
def addFs (C : BCx) (fs : List PyData) : BCx := fs.foldl addF C
theorem bodiesJ_app : ∀ (C : BCx) (fs gs ds : List PyData), bodiesJ C (fs ++ gs) ds = (bodiesJ C fs [] && bodiesJ (addFs C fs) gs ds)
  | C, [], gs, ds => by
    show _ = (true && _)
    rw [Bool.true_and]
    rfl
  | C, f :: fs, gs, ds => by
    show (partJ C (nthD f 2) && bodiesJ (addF C f) (fs ++ gs) ds) = ((partJ C (nthD f 2) && bodiesJ (addF C f) fs []) && _)
    rw [bodiesJ_app (addF C f) fs gs ds, Bool.and_assoc]
    rfl
theorem addFs_snoc (C : BCx) (fs : List PyData) (f : PyData) : addFs C (fs ++ [f]) = addF (addFs C fs) f := by
  unfold addFs
  rw [List.foldl_append]
  rfl
theorem Kept.none {nd q : Addr} {n : Nat} {H H' : Hp} (c : Kept [nd] H H') (nm : NmAt H' nd n) (e : H' q = none) : H q = none := by
  cases h : H q with
  | none => rfl
  | some o =>
    obtain ⟨ks, hk, _⟩ := nm
    have q2 := c q o h fun m => by
      rw [List.mem_singleton.mp m, hk] at e
      cases e
    rw [q2] at e
    cases e
theorem NmAt.away {H H' : Hp} {nd q : Addr} {n : Nat} (h : NmAt H nd n) (c : Kept [q] H H') (ne : nd ≠ q) : NmAt H' nd n := let ⟨ks, a, b, g⟩ := h; ⟨ks, c _ _ a fun m => ne (List.mem_singleton.mp m), b, g⟩
theorem addFs_len (C : BCx) : ∀ fs : List PyData, (addFs C fs).pars.length = C.pars.length + fs.length
  | [] => rfl
  | f :: fs => by
    show (addFs (addF C f) fs).pars.length = _
    rw [addFs_len (addF C f) fs]
    show C.pars.length + 1 + fs.length = C.pars.length + (fs.length + 1)
    omega
theorem addFs_four : ∀ (fs : List PyData) (C : BCx), (∀ z m, C.pars.lookup z = some m → m ≤ 4) → fs.all funHJ = true → ∀ z m, (addFs C fs).pars.lookup z = some m → m ≤ 4
  | [], C, h, _ => h
  | f :: fs, C, h, e => by
    rw [List.all_cons, Bool.and_eq_true] at e
    refine addFs_four fs (addF C f) (fun z m q => ?_) e.2
    obtain ⟨z1, ps, b, rfl, l4⟩ := funHJ_three e.1
    have q : (((z1, ps.length) :: C.pars).lookup z) = some m := q
    rw [List.lookup_cons] at q
    by_cases ez : z = z1
    · rw [show (z == z1) = true by rw [ez]; exact beq_self_eq_true z1] at q
      injection q with q
      rw [← q]
      exact l4
    · rw [show (z == z1) = false from beq_eq_false_iff_ne.mpr ez] at q
      exact h z m q
theorem headsJ_iff {f d : PyData} (h : headsJ f d = true) : ∃ fs ds, f = .tuple fs ∧ d = .tuple ds ∧ fs.length ≤ 6 ∧ ds.length ≤ 6 ∧ fs.all funHJ = true ∧ ds.all doorHJ = true := by
  unfold headsJ at h
  rw [Bool.and_eq_true, Bool.and_eq_true, Bool.and_eq_true, Bool.and_eq_true] at h
  obtain ⟨h1, h2, h3, h4, _⟩ := h
  obtain ⟨fs, rfl, l1, l2⟩ := tupJ_iff h1
  obtain ⟨ds, rfl, m1, m2⟩ := tupJ_iff h2
  exact ⟨fs, ds, rfl, rfl, by omega, by omega, h3, h4⟩
def spRoomW : Sp := fun vs H Q _ => ∃ (Z : Addr → Prop) (v : V) (d : PyData) (nd : Addr) (n : Nat), vs = [v, .ref nd] ∧ DA Z H v d ∧ NmAt H nd n ∧ n ≤ 700000 ∧ ∀ H', Kept [nd] H H' → NmAt H' nd (n + 12065) → Q (.bl (roomJ d)) H'
theorem DAs.five {Z : Addr → Prop} {H : Hp} {xs : List V} {a b c d e : PyData} (h : DAs Z H xs [a, b, c, d, e]) : ∃ v0 v1 v2 v3 v4, xs = [v0, v1, v2, v3, v4] ∧ DA Z H v0 a ∧ DA Z H v1 b ∧ DA Z H v2 c ∧ DA Z H v3 d ∧ DA Z H v4 e := by
  cases h with
  | cons h0 h => cases h with
    | cons h1 h => cases h with
      | cons h2 h => cases h with
        | cons h3 h => cases h with
          | cons h4 h => cases h; exact ⟨_, _, _, _, _, rfl, h0, h1, h2, h3, h4⟩
section
variable {P : Program} {w : World} {K : PySem.W.Frag} {mg : Str → Option Value} {base : Heap} {CB : Addr}
abbrev nRW : List Str := ["value", "names", "name", "imports", "blocks", "functions", "doors", "check", "function", "door"]
theorem sc_room_with : FnScope nRW ["value", "names"] (defScope s_is_room_with) := ⟨rfl, rfl, rfl, by decide +kernel, rfl, by decide +kernel, by decide +kernel⟩
theorem ok_room_with {f : Addr} {fd : FuncData} (F : Fun K "is_room_with" "is_room_with" s_is_room_with f fd) (T : Txt K mg) (B : TxB K CB)
    (DT : DefF P w K mg base CX0 1 "is_tuple" ["value", "least", "most"] spTuple) (DN : DefF P w K mg base CX0 2 "is_known_name" ["value", "names"] spKnown) (DI : DefF P w K mg base CX0 3 "are_imports" ["value", "own", "names"] spImps)
    (DB : DefF P w K mg base CX0 4 "are_blocks" ["value", "names"] spBlocks) (DH : DefF P w K mg base CX0 4 "are_heads" ["functions", "doors", "names"] spHeads) (KB : MakF P w K mg base CX0 1 "BodyCheck" CB ["self", "imports", "blocks", "names"] (spBInit CB))
    (MP : MetF P w K mg base CX0 16 CB "is_part_body" ["self", "body"] (spPart CB)) (MA : MetF P w K mg base CX0 1 CB "allow" ["self", "function"] (spAllow CB)) : FnOk P w K mg base CX0 17 f fd ["value", "names"] spRoomW := by
  refine F.ok sc_room_with (fun vs H Q E h => ?_) (fun cdv A outer s H vs Q E hr h => ?_)
  · obtain ⟨Z, v, d, nd, n, rfl, _⟩ := h
    rfl
  · obtain ⟨Z, v, d, nd, n, rfl, hv, hn, n9, k⟩ := h
    have nd0 := sc_room_with.nd
    have hr1 : Room 1 _ := hr.mono (by decide)
    have hr2 : Room 2 _ := hr.mono (by decide)
    have hr3 : Room 3 _ := hr.mono (by decide)
    have hr4 : Room 4 _ := hr.mono (by decide)
    refine ⟨_, pss_cons (ps_if (PW.pt (pw_or (pt_not (pt_val (pe_cD DT hr1 rfl pass0 (pa_cons (pv 0) (pa_cons pe_int (pa_cons pe_int pa_nil))))))
        (pw_or1 (pt_not (pt_val (pe_cD DN hr2 rfl pass0 (pa_cons (pe_ix ix_tup (pv 0) pe_int (fun _ _ => rfl)) (pa_cons (pv 1) pa_nil)))))))) (pss_one (ps_ret pe_bl)) pss_nil)
      (pss_cons (ps_asg (pv 0) (pg_tup (by rfl) (pgs_cons (pg_name (i := 2) nd0 rfl (Or.inl rfl)) (pgs_cons (pg_name (i := 3) nd0 rfl (Or.inl rfl)) (pgs_cons (pg_name (i := 4) nd0 rfl (Or.inl rfl)) (pgs_cons (pg_name (i := 5) nd0 rfl (Or.inl rfl)) (pgs_cons (pg_name (i := 6) nd0 rfl (Or.inl rfl)) pgs_nil)))))))
      (pss_cons (ps_if (PW.pt (pw_or (pt_not (pt_val (pe_cD DI hr3 rfl pass0 (pa_cons (pv 3) (pa_cons (pv 2) (pa_cons (pv 1) pa_nil))))))
        (pw_or (pt_not (pt_val (pe_cD DB hr4 rfl pass0 (pa_cons (pv 4) (pa_cons (pv 1) pa_nil)))))
        (pw_or1 (pt_not (pt_val (pe_cD DH hr4 rfl pass0 (pa_cons (pv 5) (pa_cons (pv 6) (pa_cons (pv 1) pa_nil)))))))))) (pss_one (ps_ret pe_bl)) pss_nil)
      (pss_cons (ps_set (i := 7) nd0 rfl (Or.inl rfl) (pe_kD KB hr2 rfl pass0 (pa_cons (pv 3) (pa_cons (pv 4) (pa_cons (pv 1) pa_nil)))))
      (pss_cons (ps_for PassesOwn.never rfl (pi_tup (pv 5)) (pg_name (i := 8) nd0 rfl (Or.inl rfl))
        (pss_cons (ps_if (pt_not (pt_val (pe_mD (pv 7) B.cl MP hr pass0 (pa_cons (pe_ix ix_tup (pv 8) pe_int (fun _ _ => rfl)) pa_nil)))) (pss_one (ps_ret pe_bl)) pss_nil)
        (pss_one (ps_expr (pe_mD (pv 7) B.cl MA hr1 pass0 (pa_cons (pv 8) pa_nil))))))
      (pss_cons (ps_for PassesOwn.never rfl (pi_tup (pv 6)) (pg_name (i := 9) nd0 rfl (Or.inl rfl))
        (pss_one (ps_if (pt_not (pt_val (pe_mD (pv 7) B.cl MP hr pass0 (pa_cons (pe_ix ix_tup (pv 9) pe_int (fun _ _ => rfl)) pa_nil)))) (pss_one (ps_ret pe_bl)) pss_nil)))
      (pss_one (ps_ret pe_bl))))))), ?_⟩
    refine ⟨_, rfl, v, 5, 5, rfl, hv.plv, _, rfl, ?_⟩
    rw [hv.isT]
    have end0 : ∀ H', Kept [nd] H H' → NmAt H' nd (n + 12065) → roomJ d = false → Q (.bl false) H' := fun H' c nm e => by
      have q := k H' c nm
      rwa [e] at q
    cases et : tupJ 5 5 d with
    | false => exact iteT (iteT (end0 H Kept.refl (hn.le (by omega)) (by unfold roomJ; rw [et]; rfl)))
    | true =>
    obtain ⟨ds, rfl, l1, l2⟩ := tupJ_iff et
    obtain ⟨a, xs, rfl, ha, hs⟩ := hv.tupE
    obtain ⟨d0, d1, d2, d3, d4, rfl⟩ : ∃ d0 d1 d2 d3 d4, ds = [d0, d1, d2, d3, d4] := by
      match ds, l1, l2 with
      | [d0, d1, d2, d3, d4], _, _ => exact ⟨d0, d1, d2, d3, d4, rfl⟩
    obtain ⟨v0, v1, v2, v3, v4, rfl, h0, h1, h2, h3, h4⟩ := hs.five
    have e0 : roomJ (.tuple [d0, d1, d2, d3, d4]) = (nameJ d0 && (impsJ (strD d0) d1 && (blocksJ d2 && (headsJ d3 d4 && bodiesJ (ctx0 d1 d2) (itemsD d3) (itemsD d4))))) := by
      unfold roomJ
      rw [et]
      rfl
    rw [e0] at k end0
    refine iteF ⟨_, rfl, a, _, 0, _, rfl, rfl, SqT.of ha, rfl, _, rfl, Z, v0, d0, nd, n, rfl, h0, hn, by omega, fun H1 c1 n1 => ?_⟩
    cases j0 : nameJ d0 with
    | false => exact ⟨_, rfl, iteT (end0 H1 c1 (n1.le (by omega)) (by rw [j0]; rfl))⟩
    | true =>
    rw [j0, Bool.true_and] at k end0
    obtain ⟨z0, rfl⟩ := nameJ_iff j0
    cases h0
    have ha1 := c1 a _ ha (hn.notT ha)
    refine ⟨_, rfl, iteF ⟨_, rfl, a, _, rfl, SqT.of ha1, rfl, ?_⟩⟩
    refine ⟨_, _, rfl, _, _, rfl, _, _, rfl, _, _, rfl, _, _, rfl, rfl, ?_⟩
    refine ⟨_, rfl, _, rfl, _, rfl, Z, v1, d1, z0, nd, n + 1, rfl, h1.kept c1 hn, n1, by omega, fun H2 c2 n2 => ?_⟩
    replace k : ∀ H', Kept [nd] H H' → NmAt H' nd (n + 12065) → Q (.bl (impsJ z0 d1 && (blocksJ d2 && (headsJ d3 d4 && bodiesJ (ctx0 d1 d2) (itemsD d3) (itemsD d4))))) H' := k
    replace end0 : ∀ H', Kept [nd] H H' → NmAt H' nd (n + 12065) → (impsJ z0 d1 && (blocksJ d2 && (headsJ d3 d4 && bodiesJ (ctx0 d1 d2) (itemsD d3) (itemsD d4)))) = false → Q (.bl false) H' := end0
    cases j1 : impsJ z0 d1 with
    | false => exact ⟨_, rfl, iteT (iteT (end0 H2 (c1.trans c2) (n2.le (by omega)) (by rw [j1]; rfl)))⟩
    | true =>
    rw [j1, Bool.true_and] at k end0
    have c12 := c1.trans c2
    refine ⟨_, rfl, iteF ⟨_, rfl, _, rfl, Z, v2, d2, nd, n + 17, rfl, h2.kept c12 hn, n2, by omega, fun H3 c3 n3 => ?_⟩⟩
    cases j2 : blocksJ d2 with
    | false => exact ⟨_, rfl, iteT (iteT (end0 H3 (c12.trans c3) (n3.le (by omega)) (by rw [j2]; rfl)))⟩
    | true =>
    rw [j2, Bool.true_and] at k end0
    have c13 := c12.trans c3
    refine ⟨_, rfl, iteF ⟨_, rfl, _, rfl, _, rfl, Z, v3, v4, d3, d4, nd, n + 23, rfl, h3.kept c13 hn, h4.kept c13 hn, n3, by omega, fun H4 c4 n4 => ?_⟩⟩
    cases j3 : headsJ d3 d4 with
    | false => exact ⟨_, rfl, iteT (end0 H4 (c13.trans c4) (n4.le (by omega)) (by rw [j3]; rfl))⟩
    | true =>
    rw [j3, Bool.true_and] at k end0
    have c14 := c13.trans c4
    refine ⟨_, rfl, iteF ?_⟩
    obtain ⟨fs, dsr, rfl, rfl, lf, ld, af, ad⟩ := headsJ_iff j3
    replace k : ∀ H', Kept [nd] H H' → NmAt H' nd (n + 12065) → Q (.bl (bodiesJ (ctx0 d1 d2) fs dsr)) H' := k
    replace end0 : ∀ H', Kept [nd] H H' → NmAt H' nd (n + 12065) → bodiesJ (ctx0 d1 d2) fs dsr = false → Q (.bl false) H' := end0
    have h43 := h3.kept c14 hn
    have h44 := h4.kept c14 hn
    refine ⟨_, rfl, _, rfl, _, rfl, fun p dx np ndx hne => ?_⟩
    have s5 : Same H4 (upd (upd H4 dx (.own p)) p (.ins CB dx [])) := sadd (sadd (Same.refl H4) ndx) ((upd_ne hne.symm).trans np)
    have hp5 : upd (upd H4 dx (.own p)) p (.ins CB dx []) p = some (.ins CB dx []) := upd_same
    generalize upd (upd H4 dx (.own p)) p (.ins CB dx []) = H5 at s5 hp5 ⊢
    refine ⟨Z, p, dx, nd, _, v1, v2, d1, d2, z0, rfl, hp5, (h1.kept c14 hn).same s5, (h2.kept c14 hn).same s5, n4.same s5, j1, j2, fun ia ba pa H6 c6 hB npa => ⟨rfl, ?_⟩⟩
    have np0 : H p = none := c14.none n4 np
    have npa0 : H pa = none := c14.none n4 (s5.free npa)
    have n5 := n4.same s5
    have ndp : nd ≠ p := fun z => by
      obtain ⟨ks, e, _⟩ := n4
      rw [z, np] at e
      cases e
    have n6 := n5.away c6 ndp
    have c16 : Kept [nd] H H6 := (c14.same s5).over c6 fun q m => .inl (by rw [List.mem_singleton.mp m]; exact np0)
    have q0 : ∀ z m, (ctx0 d1 d2).pars.lookup z = some m → m ≤ 4 := fun z m e => by cases e
    -- the functions
    obtain ⟨fa, fxs, rfl, hfa, hfs⟩ := h3.tupE
    obtain ⟨da, dxs, rfl, hda, hds⟩ := h4.tupE
    have elf := hfs.len
    have eld := hds.len
    refine ⟨_, rfl, fa, rfl, ⟨_, SqT.of (c16 _ _ hfa (hn.notT hfa))⟩, ?_⟩
    refine for_tup (xs := fxs) (fun i σ H' => ∃ o : Option V, σ = [some (.ref a), some (.ref nd), some (.str z0), some v1, some v2, some (.ref fa), some (.ref da), some (.ref p), o, none] ∧ Kept [nd] H H' ∧ NmAt H' nd (n + 65 + 1000 * i) ∧
      BcAt CB H' p dx ia ba nd pa (addFs (ctx0 d1 d2) (fs.take i)) ∧ bodiesJ (ctx0 d1 d2) (fs.take i) [] = true) ⟨none, rfl, c16, n6, hB, rfl⟩ (fun i σ H' _ ⟨o, _, c, _⟩ => SqT.of (c fa _ hfa (hn.notT hfa))) ?turn ?done
    case turn =>
      rintro i u σ H7 hu ⟨o, rfl, c7, n7, hB7, hall⟩
      obtain ⟨f1, hf1, hfd⟩ := hfs.get hu
      have il := (List.getElem?_eq_some_iff.mp hu).1
      obtain ⟨z1, ps, bd, rfl, l4⟩ := funHJ_three (List.all_eq_true.mp af f1 (List.mem_of_getElem? hf1))
      obtain ⟨b1, ws, rfl, hb1, hws⟩ := hfd.tupE
      obtain ⟨w0, w1, w2, rfl, g0, g1, g2⟩ := hws.three
      cases g0
      obtain ⟨b2, us, rfl, hb2, hus⟩ := g1.tupE
      have hb17 := c7 _ _ hb1 (hn.notT hb1)
      have dec : fs = fs.take i ++ .tuple [.str z1, .tuple ps, bd] :: fs.drop (i + 1) := by
        have e1 : fs.take (i + 1) = fs.take i ++ [.tuple [.str z1, .tuple ps, bd]] := by rw [List.take_add_one, hf1]; rfl
        calc fs = fs.take (i + 1) ++ fs.drop (i + 1) := (List.take_append_drop _ _).symm
          _ = _ := by rw [e1, List.append_assoc]; rfl
      have four := addFs_four (fs.take i) (ctx0 d1 d2) q0 (List.all_eq_true.mpr fun x m => List.all_eq_true.mp af x (List.mem_of_mem_take m))
      refine ⟨_, rfl, p, dx, _, rfl, hB7.hp, rfl, _, rfl, b1, _, 2, _, rfl, rfl, SqT.of hb17, atI_nat (j := 2) rfl, ?_⟩
      refine ⟨Z, p, dx, ia, ba, nd, pa, _, w2, bd, _, rfl, hB7, four, g2.kept c7 hn, n7, by omega, fun H8 c8 n8 => ?_⟩
      have c78 := c7.trans c8
      cases jb : partJ (addFs (ctx0 d1 d2) (fs.take i)) bd with
      | false =>
        refine ⟨_, rfl, iteT (end0 H8 c78 (n8.le (by omega)) ?_)⟩
        rw [dec, bodiesJ_app]
        show (_ && (partJ (addFs (ctx0 d1 d2) (fs.take i)) bd && _)) = false
        rw [jb, Bool.false_and, Bool.and_false]
      | true =>
      have hB8 := hB7.kept c8 n7
      refine ⟨_, rfl, iteF ?_⟩
      refine ⟨_, rfl, p, dx, _, rfl, hB8.hp, rfl, _, rfl, ?_⟩
      refine ⟨p, dx, ia, ba, nd, pa, _, b1, b2, z1, .non, _, us, rfl, hB8, ?_, c78 _ _ hb1 (hn.notT hb1), c78 _ _ hb2 (hn.notT hb2), fun H9 c9 hB9 => ?_⟩
      · rw [addFs_len, List.length_take]
        show 0 + _ ≤ _
        omega
      have et : fs.take (i + 1) = fs.take i ++ [.tuple [.str z1, .tuple ps, bd]] := by rw [List.take_add_one, hf1]; rfl
      refine ⟨_, rfl, c78.over c9 fun q m => .inl (by rw [List.mem_singleton.mp m]; exact npa0), (n8.away c9 fun z => hB8.nq z.symm).le (by omega), ?_, ?_⟩
      · rw [et, addFs_snoc]
        have e5 : addF (addFs (ctx0 d1 d2) (fs.take i)) (.tuple [.str z1, .tuple ps, bd]) = { addFs (ctx0 d1 d2) (fs.take i) with pars := (z1, us.length) :: (addFs (ctx0 d1 d2) (fs.take i)).pars } := by
          rw [hus.len]
          rfl
        rw [e5]
        exact hB9
      · rw [et, bodiesJ_app, hall]
        show (true && (partJ (addFs (ctx0 d1 d2) (fs.take i)) bd && true)) = true
        rw [jb]
        rfl
    case done =>
    rintro σ H7 ⟨o, rfl, c7, n7, hB7, hall⟩
    rw [elf, List.take_length] at hall hB7
    have four := addFs_four fs (ctx0 d1 d2) q0 af
    have eJ : bodiesJ (ctx0 d1 d2) fs dsr = dsr.all fun d => partJ (addFs (ctx0 d1 d2) fs) (nthD d 3) := by
      have q := bodiesJ_app (ctx0 d1 d2) fs [] dsr
      rw [List.append_nil, hall, Bool.true_and] at q
      exact q
    rw [eJ] at k end0
    -- the doors
    refine ⟨_, rfl, da, rfl, ⟨_, SqT.of (c7 _ _ hda (hn.notT hda))⟩, ?_⟩
    refine for_tup (xs := dxs) (fun i σ H' => ∃ o2 : Option V, σ = [some (.ref a), some (.ref nd), some (.str z0), some v1, some v2, some (.ref fa), some (.ref da), some (.ref p), o, o2] ∧ Kept [nd] H H' ∧ NmAt H' nd (n + 65 + 1000 * fxs.length + 1000 * i) ∧
      BcAt CB H' p dx ia ba nd pa (addFs (ctx0 d1 d2) fs) ∧ ((dsr.take i).all fun d => partJ (addFs (ctx0 d1 d2) fs) (nthD d 3)) = true) ⟨none, rfl, c7, n7, hB7, rfl⟩ (fun i σ H' _ ⟨o, _, c, _⟩ => SqT.of (c da _ hda (hn.notT hda))) ?turn2 ?done2
    case turn2 =>
      rintro i u σ H8 hu ⟨o2, rfl, c8, n8, hB8, hall2⟩
      obtain ⟨f1, hf1, hfd⟩ := hds.get hu
      have il := (List.getElem?_eq_some_iff.mp hu).1
      obtain ⟨x0, x1, x2, bd, rfl⟩ := doorHJ_four (List.all_eq_true.mp ad f1 (List.mem_of_getElem? hf1))
      obtain ⟨b1, ws, rfl, hb1, hws⟩ := hfd.tupE
      obtain ⟨w0, w1, w2, w3, rfl, g0, g1, g2, g3⟩ := hws.four
      have hb18 := c8 _ _ hb1 (hn.notT hb1)
      refine ⟨_, rfl, p, dx, _, rfl, hB8.hp, rfl, _, rfl, b1, _, 3, _, rfl, rfl, SqT.of hb18, atI_nat (j := 3) rfl, ?_⟩
      refine ⟨Z, p, dx, ia, ba, nd, pa, _, w3, bd, _, rfl, hB8, four, g3.kept c8 hn, n8, by omega, fun H9 c9 n9 => ?_⟩
      cases jb : partJ (addFs (ctx0 d1 d2) fs) bd with
      | false =>
        refine ⟨_, rfl, iteT (end0 H9 (c8.trans c9) (n9.le (by omega)) ?_)⟩
        exact List.all_eq_false.mpr ⟨_, List.mem_of_getElem? hf1, by show ¬ partJ (addFs (ctx0 d1 d2) fs) bd = true; rw [jb]; exact Bool.false_ne_true⟩
      | true =>
      refine ⟨_, rfl, iteF ⟨some (.ref b1), rfl, c8.trans c9, n9.le (by omega), hB8.kept c9 n8, ?_⟩⟩
      rw [List.take_add_one, hf1, List.all_append, hall2]
      show (true && (partJ (addFs (ctx0 d1 d2) fs) bd && true)) = true
      rw [jb]
      rfl
    case done2 =>
      rintro σ H8 ⟨o2, rfl, c8, n8, hB8, hall2⟩
      rw [eld, List.take_length] at hall2
      rw [hall2] at k
      exact k H8 c8 (n8.le (by omega))
end
end OH
end
section
set_option Elab.async false
set_option linter.all false
set_option maxRecDepth 100000
set_option maxHeartbeats 4000000
/-! Rooms, asked from without. -/
namespace OH
open PySem PySem.Spec PyProof.Rows L2
def spGoodRoom : Sp := fun vs H Q _ => ∃ (Z : Addr → Prop) (v : V) (d : PyData), vs = [v] ∧ DA Z H v d ∧ ∀ H', Same H H' → Q (.bl (roomJ d)) H'
def spNeedRoom (CR : Addr) : Sp := fun vs H Q E => ∃ (Z : Addr → Prop) (v : V) (d : PyData), vs = [v] ∧ DA Z H v d ∧ (roomJ d = true → ∀ H', Same H H' → Q .non H') ∧ (roomJ d = false → ∀ H', Same H H' → E (.ref CR) none H')
section
variable {P : Program} {w : World} {K : PySem.W.Frag} {mg : Str → Option Value} {base : Heap} {CR : Addr}
theorem sc_good_room : FnScope ["value"] ["value"] (defScope s_good_room) := ⟨rfl, rfl, rfl, by decide +kernel, rfl, by decide +kernel, by decide +kernel⟩
theorem ok_good_room {f : Addr} {fd : FuncData} (F : Fun K "good_room" "good_room" s_good_room f fd) (DR : DefF P w K mg base CX0 17 "is_room_with" ["value", "names"] spRoomW) : FnOk P w K mg base CX0 18 f fd ["value"] spGoodRoom := by
  refine F.ok sc_good_room (fun vs H Q E h => ?_) (fun cdv A outer s H vs Q E hr h => ?_)
  · obtain ⟨Z, v, d, rfl, _⟩ := h
    rfl
  · obtain ⟨Z, v, d, rfl, hv, k⟩ := h
    refine ⟨_, pss_one (ps_ret (pe_cD DR hr rfl pass0 (pa_cons (pv 0) (pa_cons pe_dnewK pa_nil)))), ?_⟩
    refine ⟨_, rfl, fun nd nnd => ?_⟩
    have s1 := sadd (o := .dK []) (Same.refl H) nnd
    refine ⟨Z, v, d, nd, 0, rfl, hv.same s1, ⟨[], upd_same, Nat.le_refl 0, fun k hk => absurd hk List.not_mem_nil⟩, by omega, fun H1 c1 n1 => k H1 ?_⟩
    exact fun q o e => c1 q o (s1 q o e) fun m => by
      rw [List.mem_singleton.mp m, nnd] at e
      cases e
theorem sc_is_room : FnScope ["value"] ["value"] (defScope s_is_room) := ⟨rfl, rfl, rfl, by decide +kernel, rfl, by decide +kernel, by decide +kernel⟩
theorem ok_is_room {f : Addr} {fd : FuncData} (F : Fun K "is_room" "is_room" s_is_room f fd) (DG : DefF P w K mg base CX0 18 "good_room" ["value"] spGoodRoom) : FnOk P w K mg base CX0 19 f fd ["value"] spGoodRoom := by
  refine F.ok sc_is_room (fun vs H Q E h => ?_) (fun cdv A outer s H vs Q E hr h => ?_)
  · obtain ⟨Z, v, d, rfl, _⟩ := h
    rfl
  · obtain ⟨Z, v, d, rfl, hv, k⟩ := h
    refine ⟨_, pss_one (ps_ret (pe_cD DG hr rfl pass0 (pa_cons (pv 0) pa_nil))), ?_⟩
    exact ⟨_, rfl, Z, v, d, rfl, hv, k⟩
theorem sc_need_room : FnScope ["source"] ["source"] (defScope s_need_room) := ⟨rfl, rfl, rfl, by decide +kernel, rfl, by decide +kernel, by decide +kernel⟩
theorem ok_need_room {f : Addr} {fd : FuncData} (F : Fun K "need_room" "need_room" s_need_room f fd) (EB : ErrC K mg "BadRoom" CR) (DG : DefF P w K mg base CX0 18 "good_room" ["value"] spGoodRoom) : FnOk P w K mg base (L2.CX P w) 19 f fd ["source"] (spNeedRoom CR) := by
  refine F.okX sc_need_room (fun vs H Q E h => ?_) (fun cdv A outer s H vs Q E hr h => ?_)
  · obtain ⟨Z, v, d, rfl, _⟩ := h
    rfl
  · obtain ⟨Z, v, d, rfl, hv, k1, k2⟩ := h
    refine ⟨_, pss_one (ps_if (pt_not (pt_val (pe_cD DG hr rfl pass0 (pa_cons (pv 0) pa_nil)))) (pss_one (ps_raise rfl (takes_of rfl rfl rfl rfl) (pmk_own PySem.F.excBase_ValueError EB.x EB.g EB.k (raises_own EB.b EB.t) (by exact rfl)))) pss_nil), ?_⟩
    refine ⟨_, rfl, Z, v, d, rfl, hv, fun H1 s1 => ?_⟩
    cases hg : roomJ d with
    | true => exact ⟨_, rfl, iteF (k1 hg H1 s1)⟩
    | false => exact ⟨_, rfl, iteT (k2 hg H1 s1)⟩
end
end OH
end
section
set_option Elab.async false
set_option linter.all false
set_option maxRecDepth 100000
set_option maxHeartbeats 4000000
/-! The nodes of good bodies, in plain words. -/
namespace OH
open PySem PySem.Spec PyProof.Rows L2
def kids : PyData → List PyData
  | .tuple (.str w :: r) =>
    if w ∈ opsL then [r.getD 0 .none, r.getD 1 .none] else if w = "cell" ∨ w = "let" then [r.getD 1 .none] else if w = "store" then [r.getD 1 .none, r.getD 2 .none] else if w = "run" then itemsD (r.getD 1 .none) else if w = "ask" then [r.getD 2 .none]
    else if w = "if" then r.getD 0 .none :: (itemsD (r.getD 1 .none) ++ itemsD (r.getD 2 .none)) else if w = "while" then r.getD 0 .none :: itemsD (r.getD 1 .none) else if w = "give" then [r.getD 0 .none] else []
  | _ => []
/-- a node that runs nothing but what R names, and the nodes just within it -/
inductive Form (R : Str → Prop) : PyData → List PyData → Prop
  | num (t : PyData) : Form R (.tuple [.str "number", t]) []
  | loc (t : PyData) : Form R (.tuple [.str "local", t]) []
  | op (w : Str) (h : w ∈ opsL) (a b : PyData) : Form R (.tuple [.str w, a, b]) [a, b]
  | cell (n a : PyData) : Form R (.tuple [.str "cell", n, a]) [a]
  | run (z : Str) (hz : R z) (es : List PyData) (h4 : es.length ≤ 4) : Form R (.tuple [.str "run", .str z, .tuple es]) es
  | ask (y z : Str) (a : PyData) : Form R (.tuple [.str "ask", .str y, .str z, a]) [a]
  | let_ (n a : PyData) : Form R (.tuple [.str "let", n, a]) [a]
  | store (n a b : PyData) : Form R (.tuple [.str "store", n, a, b]) [a, b]
  | give (a : PyData) : Form R (.tuple [.str "give", a]) [a]
  | if_ (a : PyData) (es fs : List PyData) : Form R (.tuple [.str "if", a, .tuple es, .tuple fs]) (a :: (es ++ fs))
  | while_ (a : PyData) (es : List PyData) : Form R (.tuple [.str "while", a, .tuple es]) (a :: es)
  | stop : Form R (.tuple [.str "stop"]) []
theorem Form.kids {R : Str → Prop} {x : PyData} {ks : List PyData} (h : Form R x ks) : OH.kids x = ks := by
  cases h with
  | op w hw a b =>
    show (if w ∈ opsL then _ else _) = _
    rw [if_pos hw]
    rfl
  | num t => rfl
  | loc t => rfl
  | cell n a => rfl
  | let_ n a => rfl
  | store n a b => rfl
  | run z hz es h4 => rfl
  | ask y z a => rfl
  | if_ a es fs => rfl
  | while_ a es => rfl
  | give a => rfl
  | stop => rfl
/-- a node of at most so many steps down -/
def NdOk (R : Str → Prop) : Nat → PyData → Prop
  | 0, _ => False
  | d + 1, x => Form R x (kids x) ∧ ∀ y ∈ kids x, NdOk R d y
theorem NdOk.of {R : Str → Prop} {d : Nat} {x : PyData} {ks : List PyData} (h : Form R x ks) (hk : ∀ y ∈ ks, NdOk R d y) : NdOk R (d + 1) x := by
  have e := h.kids
  refine ⟨by rw [e]; exact h, by rw [e]; exact hk⟩
/-- the nodes in reading order -/
def nodesIn : Nat → List PyData → List PyData
  | 0, _ => []
  | d + 1, xs => xs.flatMap fun x => x :: nodesIn d (kids x)
theorem nodesIn_nil : ∀ d : Nat, nodesIn d [] = []
  | 0 => rfl
  | d + 1 => rfl
theorem nodesIn_app : ∀ (d : Nat) (xs ys : List PyData), nodesIn d (xs ++ ys) = nodesIn d xs ++ nodesIn d ys
  | 0, _, _ => rfl
  | d + 1, xs, ys => List.flatMap_append
theorem nodesIn_cons (d : Nat) (x : PyData) (xs : List PyData) : nodesIn d (x :: xs) = nodesIn d [x] ++ nodesIn d xs := nodesIn_app d [x] xs
theorem nodesIn_one (d : Nat) (x : PyData) : nodesIn (d + 1) [x] = x :: nodesIn d (kids x) := by
  show [x].flatMap (fun x => x :: nodesIn d (kids x)) = _
  rw [List.flatMap_cons, List.flatMap_nil, List.append_nil]
def nlen (d : Nat) (xs : List PyData) : Int := ((nodesIn d xs).length : Int)
theorem nlen_nil (d : Nat) : nlen d [] = 0 := by unfold nlen; rw [nodesIn_nil]; rfl
theorem nlen_cons (d : Nat) (x : PyData) (xs : List PyData) : nlen d (x :: xs) = nlen d [x] + nlen d xs := by
  unfold nlen
  rw [nodesIn_cons, List.length_append]
  omega
theorem nlen_app (d : Nat) (xs ys : List PyData) : nlen d (xs ++ ys) = nlen d xs + nlen d ys := by
  unfold nlen
  rw [nodesIn_app, List.length_append]
  omega
theorem nlen_form {R : Str → Prop} (d : Nat) {x : PyData} {ks : List PyData} (h : Form R x ks) : nlen (d + 1) [x] = 1 + nlen d ks := by
  unfold nlen
  rw [nodesIn_one, h.kids, List.length_cons]
  omega
theorem nlen_pos (d : Nat) (xs : List PyData) : 0 ≤ nlen d xs := by unfold nlen; omega
section
variable {C : BCx} {R : Str → Prop}
abbrev VOk (C : BCx) (R : Str → Prop) (d : Nat) : Prop := ∀ v l, 0 ≤ leftV C d v l → NdOk R d v ∧ leftV C d v l + nlen d [v] = l
abbrev BOk (C : BCx) (R : Str → Prop) (d : Nat) : Prop := ∀ b l, 0 ≤ leftB C d b l → ∃ ds, b = .tuple ds ∧ (∀ x ∈ ds, NdOk R d x) ∧ leftB C d b l + nlen d ds = l
theorem vals_ok {d : Nat} (h : VOk C R d) : ∀ (es : List PyData) (l : Int), 0 ≤ es.foldl (fun l x => leftV C d x l) l → (∀ x ∈ es, NdOk R d x) ∧ es.foldl (fun l x => leftV C d x l) l + nlen d es = l
  | [], l, _ => ⟨fun x m => absurd m List.not_mem_nil, by rw [nlen_nil]; exact Int.add_zero l⟩
  | e :: es, l, p => by
    obtain ⟨h1, h2⟩ := vals_ok h es (leftV C d e l) p
    have e0 : (e :: es).foldl (fun l x => leftV C d x l) l = es.foldl (fun l x => leftV C d x l) (leftV C d e l) := rfl
    rw [e0] at p ⊢
    have n1 := nlen_pos d es
    obtain ⟨g1, g2⟩ := h e l (by omega)
    refine ⟨fun x m => (List.mem_cons.mp m).elim (fun q => by rw [q]; exact g1) (h1 x), ?_⟩
    rw [nlen_cons]
    omega
theorem mem_one {α : Type} {P : α → Prop} {a : α} (h : P a) : ∀ x ∈ [a], P x := fun x m => by rw [List.mem_singleton.mp m]; exact h
theorem mem_two {α : Type} {P : α → Prop} {a b : α} (h : P a) (g : P b) : ∀ x ∈ [a, b], P x := fun x m => (List.mem_cons.mp m).elim (fun q => by rw [q]; exact h) (mem_one g x)
theorem val_ok (hR : ∀ z n, C.pars.lookup z = some n → R z ∧ n ≤ 4) {d : Nat} (h : VOk C R d) : VOk C R (d + 1) := by
  intro v l p
  replace p : 0 ≤ valStep C (leftV C d) v l := p
  show NdOk R (d + 1) v ∧ valStep C (leftV C d) v l + nlen (d + 1) [v] = l
  unfold valStep at p ⊢
  split at p
  · rename_i w t
    split at p
    · rename_i o1
      split at p
      · rename_i o2
        cases (isOwn_iff o1)
        rw [if_pos o1, if_pos o2]
        have f : Form R (.tuple [.str "number", t]) [] := .num t
        refine ⟨.of f fun y m => absurd m List.not_mem_nil, ?_⟩
        rw [nlen_form d f, nlen_nil]
        omega
      · exact absurd p (by decide)
    · rename_i o1
      split at p
      · rename_i o2
        rw [if_neg o1, if_pos o2]
        rw [Bool.and_eq_true] at o2
        cases (isOwn_iff o2.1)
        have f : Form R (.tuple [.str "local", t]) [] := .loc t
        refine ⟨.of f fun y m => absurd m List.not_mem_nil, ?_⟩
        rw [nlen_form d f, nlen_nil]
        omega
      · exact absurd p (by decide)
  · rename_i w a b
    split at p
    · exact absurd p (by decide)
    · rename_i o0
      rw [if_neg o0]
      split at p
      · rename_i o1
        rw [if_pos o1]
        obtain ⟨z, rfl, hz⟩ : ∃ z, w = .str z ∧ z ∈ opsL := by
          cases w with
          | str z =>
            obtain ⟨k, m, e⟩ := List.any_eq_true.mp o1
            exact ⟨z, rfl, by rw [of_decide_eq_true e]; exact m⟩
          | _ => cases o1
        have f : Form R (.tuple [.str z, a, b]) [a, b] := .op z hz a b
        obtain ⟨g1, g2⟩ := h b _ p
        have n1 := nlen_pos d [b]
        obtain ⟨g3, g4⟩ := h a (l - 1) (by omega)
        refine ⟨.of f (mem_two g3 g1), ?_⟩
        rw [nlen_form d f, nlen_cons]
        omega
      · rename_i o1
        rw [if_neg o1]
        split at p
        · rename_i o2
          rw [if_pos o2]
          rw [Bool.and_eq_true] at o2
          cases (isOwn_iff o2.1)
          have f : Form R (.tuple [.str "cell", a, b]) [b] := .cell a b
          obtain ⟨g1, g2⟩ := h b _ p
          refine ⟨.of f (mem_one g1), ?_⟩
          rw [nlen_form d f]
          omega
        · rename_i o2
          rw [if_neg o2]
          split at p
          · rename_i o3
            rw [if_pos o3]
            rw [Bool.and_eq_true] at o3
            cases (isOwn_iff o3.1)
            obtain ⟨z, es, rfl, rfl, hl⟩ := parB_iff o3.2
            have f : Form R (.tuple [.str "run", .str z, .tuple es]) es := .run z (hR z _ hl).1 es (hR z _ hl).2
            obtain ⟨g1, g2⟩ := vals_ok h es _ p
            refine ⟨.of f g1, ?_⟩
            rw [nlen_form d f]
            have g2' : (itemsD (.tuple es)).foldl (fun l x => leftV C d x l) (l - 1) + nlen d es = l - 1 := g2
            omega
          · exact absurd p (by decide)
  · rename_i w a b c
    split at p
    · exact absurd p (by decide)
    · rename_i o0
      rw [if_neg o0]
      split at p
      · rename_i o1
        rw [if_pos o1]
        rw [Bool.and_eq_true] at o1
        cases (isOwn_iff o1.1)
        obtain ⟨y, z, rfl, rfl⟩ : ∃ y z, a = .str y ∧ b = .str z := by
          have q := o1.2
          cases a with
          | str y =>
            cases b with
            | str z => exact ⟨y, z, rfl, rfl⟩
            | _ => cases q
          | _ => cases q
        have f : Form R (.tuple [.str "ask", .str y, .str z, c]) [c] := .ask y z c
        obtain ⟨g1, g2⟩ := h c _ p
        refine ⟨.of f (mem_one g1), ?_⟩
        rw [nlen_form d f]
        omega
      · exact absurd p (by decide)
  · exact absurd p (by decide)
theorem stm_ok (hR : ∀ z n, C.pars.lookup z = some n → R z ∧ n ≤ 4) {d : Nat} (hv : VOk C R d) (hb : BOk C R d) (x : PyData) (l : Int) (p : 0 ≤ stmStep C (leftV C d) (leftB C d) l x) : NdOk R (d + 1) x ∧ stmStep C (leftV C d) (leftB C d) l x + nlen (d + 1) [x] = l := by
  unfold stmStep at p ⊢
  split at p
  · rename_i w
    split at p
    · exact absurd p (by decide)
    · rename_i o0
      rw [if_neg o0]
      split at p
      · rename_i o1
        rw [if_pos o1]
        cases (isOwn_iff o1)
        have f : Form R (.tuple [.str "stop"]) [] := .stop
        refine ⟨.of f fun y m => absurd m List.not_mem_nil, ?_⟩
        rw [nlen_form d f, nlen_nil]
        omega
      · exact absurd p (by decide)
  · rename_i w a
    split at p
    · exact absurd p (by decide)
    · rename_i o0
      rw [if_neg o0]
      split at p
      · rename_i o1
        rw [if_pos o1]
        cases (isOwn_iff o1)
        have f : Form R (.tuple [.str "give", a]) [a] := .give a
        obtain ⟨g1, g2⟩ := hv a _ p
        refine ⟨.of f (mem_one g1), ?_⟩
        rw [nlen_form d f]
        omega
      · exact absurd p (by decide)
  · rename_i w a b
    split at p
    · exact absurd p (by decide)
    · rename_i o0
      rw [if_neg o0]
      split at p
      · rename_i o1
        rw [if_pos o1]
        split at p
        · rename_i o2
          rw [if_pos o2]
          cases (isOwn_iff o1)
          have f : Form R (.tuple [.str "let", a, b]) [b] := .let_ a b
          obtain ⟨g1, g2⟩ := hv b _ p
          refine ⟨.of f (mem_one g1), ?_⟩
          rw [nlen_form d f]
          omega
        · exact absurd p (by decide)
      · rename_i o1
        rw [if_neg o1]
        split at p
        · rename_i o2
          rw [if_pos o2]
          cases (isOwn_iff o2)
          obtain ⟨es, rfl, g1, g2⟩ := hb b _ p
          have f : Form R (.tuple [.str "while", a, .tuple es]) (a :: es) := .while_ a es
          have n1 := nlen_pos d es
          obtain ⟨g3, g4⟩ := hv a (l - 1) (by omega)
          refine ⟨.of f fun y m => (List.mem_cons.mp m).elim (fun q => by rw [q]; exact g3) (g1 y), ?_⟩
          rw [nlen_form d f, nlen_cons]
          omega
        · exact absurd p (by decide)
  · rename_i w a b c
    split at p
    · exact absurd p (by decide)
    · rename_i o0
      rw [if_neg o0]
      split at p
      · rename_i o1
        rw [if_pos o1]
        rw [Bool.and_eq_true] at o1
        cases (isOwn_iff o1.1)
        have f : Form R (.tuple [.str "store", a, b, c]) [b, c] := .store a b c
        obtain ⟨g1, g2⟩ := hv c _ p
        have n1 := nlen_pos d [c]
        obtain ⟨g3, g4⟩ := hv b (l - 1) (by omega)
        refine ⟨.of f (mem_two g3 g1), ?_⟩
        rw [nlen_form d f, nlen_cons]
        omega
      · rename_i o1
        rw [if_neg o1]
        split at p
        · rename_i o2
          rw [if_pos o2]
          cases (isOwn_iff o2)
          obtain ⟨fs, rfl, g1, g2⟩ := hb c _ p
          have n1 := nlen_pos d fs
          obtain ⟨es, rfl, g3, g4⟩ := hb b (leftV C d a (l - 1)) (by omega)
          have n2 := nlen_pos d es
          obtain ⟨g5, g6⟩ := hv a (l - 1) (by omega)
          have f : Form R (.tuple [.str "if", a, .tuple es, .tuple fs]) (a :: (es ++ fs)) := .if_ a es fs
          refine ⟨.of f fun y m => (List.mem_cons.mp m).elim (fun q => by rw [q]; exact g5) fun m => (List.mem_append.mp m).elim (g3 y) (g1 y), ?_⟩
          rw [nlen_form d f, nlen_cons, nlen_app]
          omega
        · exact absurd p (by decide)
  · exact absurd p (by decide)
theorem stms_ok (hR : ∀ z n, C.pars.lookup z = some n → R z ∧ n ≤ 4) {d : Nat} (hv : VOk C R d) (hb : BOk C R d) : ∀ (xs : List PyData) (l : Int), 0 ≤ xs.foldl (stmStep C (leftV C d) (leftB C d)) l → (∀ x ∈ xs, NdOk R (d + 1) x) ∧ xs.foldl (stmStep C (leftV C d) (leftB C d)) l + nlen (d + 1) xs = l
  | [], l, _ => ⟨fun x m => absurd m List.not_mem_nil, by rw [nlen_nil]; exact Int.add_zero l⟩
  | e :: es, l, p => by
    have e0 : (e :: es).foldl (stmStep C (leftV C d) (leftB C d)) l = es.foldl (stmStep C (leftV C d) (leftB C d)) (stmStep C (leftV C d) (leftB C d) l e) := rfl
    rw [e0] at p ⊢
    obtain ⟨h1, h2⟩ := stms_ok hR hv hb es _ p
    have n1 := nlen_pos (d + 1) es
    obtain ⟨g1, g2⟩ := stm_ok hR hv hb e l (by omega)
    refine ⟨fun x m => (List.mem_cons.mp m).elim (fun q => by rw [q]; exact g1) (h1 x), ?_⟩
    rw [nlen_cons]
    omega
theorem left_ok (hR : ∀ z n, C.pars.lookup z = some n → R z ∧ n ≤ 4) : ∀ d : Nat, VOk C R d ∧ BOk C R d
  | 0 => by
    refine ⟨fun v l p => absurd (show (0 : Int) ≤ -1 from p) (by decide), fun b l p => ?_⟩
    replace p : 0 ≤ (if isTD b && (itemsD b).isEmpty then l else -1) := p
    show ∃ ds, b = .tuple ds ∧ (∀ x ∈ ds, NdOk R 0 x) ∧ (if isTD b && (itemsD b).isEmpty then l else -1) + nlen 0 ds = l
    split at p
    · rename_i o1
      rw [if_pos o1]
      cases b with
      | tuple ds =>
        cases ds with
        | nil => exact ⟨[], rfl, fun x m => absurd m List.not_mem_nil, by rw [nlen_nil]; exact Int.add_zero l⟩
        | cons _ _ => cases o1
      | _ => cases o1
    · exact absurd p (by decide)
  | d + 1 => by
    obtain ⟨hv, hb⟩ := left_ok hR d
    refine ⟨val_ok hR hv, fun b l p => ?_⟩
    replace p : 0 ≤ (if isTD b then (itemsD b).foldl (stmStep C (leftV C d) (leftB C d)) l else -1) := p
    show ∃ ds, b = .tuple ds ∧ (∀ x ∈ ds, NdOk R (d + 1) x) ∧ (if isTD b then (itemsD b).foldl (stmStep C (leftV C d) (leftB C d)) l else -1) + nlen (d + 1) ds = l
    split at p
    · rename_i o1
      rw [if_pos o1]
      cases b with
      | tuple ds =>
        obtain ⟨g1, g2⟩ := stms_ok hR hv hb ds l p
        exact ⟨ds, rfl, g1, g2⟩
      | _ => cases o1
    · exact absurd p (by decide)
/-- a part's body has at most 200 nodes -/
theorem partJ_ok (hR : ∀ z n, C.pars.lookup z = some n → R z ∧ n ≤ 4) {b : PyData} (h : partJ C b = true) : ∃ ds, b = .tuple ds ∧ (∀ x ∈ ds, NdOk R 12 x) ∧ (nodesIn 12 ds).length ≤ 200 := by
  have p : 0 ≤ leftB C 12 b 200 := of_decide_eq_true h
  obtain ⟨ds, e, g1, g2⟩ := (left_ok hR 12).2 b 200 p
  refine ⟨ds, e, g1, ?_⟩
  unfold nlen at g2
  omega
end
end OH
end
section
set_option Elab.async false
set_option linter.all false
set_option maxRecDepth 100000
set_option maxHeartbeats 4000000
/-! The nodes just within a node. -/
namespace OH
open PySem PySem.Spec PyProof.Rows L2
structure FormI (R : Str → Prop) (w : Str) (r ks : List PyData) : Prop where
  op : w ∈ opsL → ∃ a b, r = [a, b] ∧ ks = [a, b]
  one : w = "cell" ∨ w = "let" → ∃ n a, r = [n, a] ∧ ks = [a]
  store : w = "store" → ∃ n a b, r = [n, a, b] ∧ ks = [a, b]
  run : w = "run" → ∃ z es, r = [.str z, .tuple es] ∧ ks = es ∧ R z
  ask : w = "ask" → ∃ y z a, r = [.str y, .str z, a] ∧ ks = [a]
  if_ : w = "if" → ∃ a es fs, r = [a, .tuple es, .tuple fs] ∧ ks = a :: (es ++ fs)
  while_ : w = "while" → ∃ a es, r = [a, .tuple es] ∧ ks = a :: es
  give : w = "give" → ∃ a, r = [a] ∧ ks = [a]
  rest : w ∉ opsL → w ≠ "cell" → w ≠ "let" → w ≠ "store" → w ≠ "run" → w ≠ "ask" → w ≠ "if" → w ≠ "while" → w ≠ "give" → ks = []
theorem Form.inv {R : Str → Prop} {x : PyData} {ks : List PyData} (h : Form R x ks) : ∃ w r, x = .tuple (.str w :: r) ∧ FormI R w r ks := by
  cases h with
  | num t => exact ⟨_, _, rfl, ⟨fun q => absurd q (by decide), fun q => absurd q (by decide), fun q => absurd q (by decide), fun q => absurd q (by decide), fun q => absurd q (by decide), fun q => absurd q (by decide), fun q => absurd q (by decide), fun q => absurd q (by decide), fun _ _ _ _ _ _ _ _ _ => rfl⟩⟩
  | loc t => exact ⟨_, _, rfl, ⟨fun q => absurd q (by decide), fun q => absurd q (by decide), fun q => absurd q (by decide), fun q => absurd q (by decide), fun q => absurd q (by decide), fun q => absurd q (by decide), fun q => absurd q (by decide), fun q => absurd q (by decide), fun _ _ _ _ _ _ _ _ _ => rfl⟩⟩
  | stop => exact ⟨_, _, rfl, ⟨fun q => absurd q (by decide), fun q => absurd q (by decide), fun q => absurd q (by decide), fun q => absurd q (by decide), fun q => absurd q (by decide), fun q => absurd q (by decide), fun q => absurd q (by decide), fun q => absurd q (by decide), fun _ _ _ _ _ _ _ _ _ => rfl⟩⟩
  | op w hw a b =>
    have no : ∀ k : Str, k ∉ opsL → w ≠ k := fun k hk e => hk (e ▸ hw)
    exact ⟨_, _, rfl, ⟨fun _ => ⟨a, b, rfl, rfl⟩, fun q => q.elim (fun q => absurd q (no _ (by decide))) (fun q => absurd q (no _ (by decide))), fun q => absurd q (no _ (by decide)), fun q => absurd q (no _ (by decide)), fun q => absurd q (no _ (by decide)), fun q => absurd q (no _ (by decide)), fun q => absurd q (no _ (by decide)), fun q => absurd q (no _ (by decide)), fun q => absurd hw q⟩⟩
  | cell n a => exact ⟨_, _, rfl, ⟨fun q => absurd q (by decide), fun q => ⟨_, _, rfl, rfl⟩, fun q => absurd q (by decide), fun q => absurd q (by decide), fun q => absurd q (by decide), fun q => absurd q (by decide), fun q => absurd q (by decide), fun q => absurd q (by decide), fun _ q => absurd rfl q⟩⟩
  | let_ n a => exact ⟨_, _, rfl, ⟨fun q => absurd q (by decide), fun q => ⟨_, _, rfl, rfl⟩, fun q => absurd q (by decide), fun q => absurd q (by decide), fun q => absurd q (by decide), fun q => absurd q (by decide), fun q => absurd q (by decide), fun q => absurd q (by decide), fun _ _ q => absurd rfl q⟩⟩
  | store n a b => exact ⟨_, _, rfl, ⟨fun q => absurd q (by decide), fun q => absurd q (by decide), fun q => ⟨_, _, _, rfl, rfl⟩, fun q => absurd q (by decide), fun q => absurd q (by decide), fun q => absurd q (by decide), fun q => absurd q (by decide), fun q => absurd q (by decide), fun _ _ _ q => absurd rfl q⟩⟩
  | run z hz es h4 => exact ⟨_, _, rfl, ⟨fun q => absurd q (by decide), fun q => absurd q (by decide), fun q => absurd q (by decide), fun q => ⟨_, _, rfl, rfl, hz⟩, fun q => absurd q (by decide), fun q => absurd q (by decide), fun q => absurd q (by decide), fun q => absurd q (by decide), fun _ _ _ _ q => absurd rfl q⟩⟩
  | ask y z a => exact ⟨_, _, rfl, ⟨fun q => absurd q (by decide), fun q => absurd q (by decide), fun q => absurd q (by decide), fun q => absurd q (by decide), fun q => ⟨_, _, _, rfl, rfl⟩, fun q => absurd q (by decide), fun q => absurd q (by decide), fun q => absurd q (by decide), fun _ _ _ _ _ q => absurd rfl q⟩⟩
  | if_ a es fs => exact ⟨_, _, rfl, ⟨fun q => absurd q (by decide), fun q => absurd q (by decide), fun q => absurd q (by decide), fun q => absurd q (by decide), fun q => absurd q (by decide), fun q => ⟨_, _, _, rfl, rfl⟩, fun q => absurd q (by decide), fun q => absurd q (by decide), fun _ _ _ _ _ _ q => absurd rfl q⟩⟩
  | while_ a es => exact ⟨_, _, rfl, ⟨fun q => absurd q (by decide), fun q => absurd q (by decide), fun q => absurd q (by decide), fun q => absurd q (by decide), fun q => absurd q (by decide), fun q => absurd q (by decide), fun q => ⟨_, _, rfl, rfl⟩, fun q => absurd q (by decide), fun _ _ _ _ _ _ _ q => absurd rfl q⟩⟩
  | give a => exact ⟨_, _, rfl, ⟨fun q => absurd q (by decide), fun q => absurd q (by decide), fun q => absurd q (by decide), fun q => absurd q (by decide), fun q => absurd q (by decide), fun q => absurd q (by decide), fun q => absurd q (by decide), fun q => ⟨_, rfl, rfl⟩, fun _ _ _ _ _ _ _ _ q => absurd rfl q⟩⟩
def spChildren : Sp := fun vs H Q _ => ∃ (Z : Addr → Prop) (R : Str → Prop) (v : V) (x : PyData) (ks : List PyData), vs = [v] ∧ DA Z H v x ∧ Form R x ks ∧ ks.length ≤ 1000000 ∧ ∀ l vs' H', Same H H' → H l = none → H' l = some (.lst vs') → DAs Z H' vs' ks → Q (.ref l) H'
theorem DAs.consE {Z : Addr → Prop} {H : Hp} {xs : List V} {d : PyData} {ds : List PyData} (h : DAs Z H xs (d :: ds)) : ∃ v vs, xs = v :: vs ∧ DA Z H v d ∧ DAs Z H vs ds := by
  cases h with
  | cons a b => exact ⟨_, _, rfl, a, b⟩
section
variable {P : Program} {w : World} {K : PySem.W.Frag} {mg : Str → Option Value} {base : Heap} {aO : Addr}
theorem sc_children : FnScope ["node", "word"] ["node"] (defScope s_children) := ⟨rfl, rfl, rfl, by decide +kernel, rfl, by decide +kernel, by decide +kernel⟩
theorem ok_children {f : Addr} {fd : FuncData} (F : Fun K "children" "children" s_children f fd) (T : Txt K mg) (O : TxO K mg aO) : FnOk P w K mg base CX0 1 f fd ["node"] spChildren := by
  refine F.ok sc_children (fun vs H Q E h => ?_) (fun cdv A outer s H vs Q E hr h => ?_)
  · obtain ⟨Z, R, v, x, ks, rfl, _⟩ := h
    rfl
  · obtain ⟨Z, R, v, x, ks, rfl, hv, hf, hl, k⟩ := h
    have nd0 := sc_children.nd
    have hu := Room_u65 hr
    have hu1 := Nat.lt_of_le_of_lt (Nat.add_le_add_left (show 1 ≤ 65 by decide) _) hu
    refine ⟨_, pss_cons (ps_set (i := 1) nd0 rfl (Or.inl rfl) (pe_ix ix_tup (pv 0) pe_int (fun _ _ => rfl)))
      (pss_cons (ps_if (pt_cmpR (op_inST hu1) (pv 1) (pe_glob (v := .ref aO) rfl O.gO rfl) (by rfl)) (pss_one (ps_ret (pe_lst (pa_cons (pe_ix ix_tup (pv 0) pe_int (fun _ _ => rfl)) (pa_cons (pe_ix ix_tup (pv 0) pe_int (fun _ _ => rfl)) pa_nil))))) pss_nil)
      (pss_cons (ps_if (PW.pt (pw_or (pt_cmpR op_eq (pv 1) pe_str (nomark _)) (pw_or1 (pt_cmpR op_eq (pv 1) pe_str (nomark _))))) (pss_one (ps_ret (pe_lst (pa_cons (pe_ix ix_tup (pv 0) pe_int (fun _ _ => rfl)) pa_nil)))) pss_nil)
      (pss_cons (ps_if (pt_cmpR op_eq (pv 1) pe_str (nomark _)) (pss_one (ps_ret (pe_lst (pa_cons (pe_ix ix_tup (pv 0) pe_int (fun _ _ => rfl)) (pa_cons (pe_ix ix_tup (pv 0) pe_int (fun _ _ => rfl)) pa_nil))))) pss_nil)
      (pss_cons (ps_if (pt_cmpR op_eq (pv 1) pe_str (nomark _)) (pss_one (ps_ret (pe_callTy call_list_of (by rfl) T.nList (by decide +kernel) (pa_cons (pe_ix ix_tup (pv 0) pe_int (fun _ _ => rfl)) pa_nil)))) pss_nil)
      (pss_cons (ps_if (pt_cmpR op_eq (pv 1) pe_str (nomark _)) (pss_one (ps_ret (pe_lst (pa_cons (pe_ix ix_tup (pv 0) pe_int (fun _ _ => rfl)) pa_nil)))) pss_nil)
      (pss_cons (ps_if (pt_cmpR op_eq (pv 1) pe_str (nomark _)) (pss_one (ps_ret (pe_lst (pa_cons (pe_ix ix_tup (pv 0) pe_int (fun _ _ => rfl)) (StX.pa_star (pe_ix ix_tup (pv 0) pe_int (fun _ _ => rfl)) (StX.pa_star (pe_ix ix_tup (pv 0) pe_int (fun _ _ => rfl)) pa_nil)))))) pss_nil)
      (pss_cons (ps_if (pt_cmpR op_eq (pv 1) pe_str (nomark _)) (pss_one (ps_ret (pe_lst (pa_cons (pe_ix ix_tup (pv 0) pe_int (fun _ _ => rfl)) (StX.pa_star (pe_ix ix_tup (pv 0) pe_int (fun _ _ => rfl)) pa_nil))))) pss_nil)
      (pss_cons (ps_if (pt_cmpR op_eq (pv 1) pe_str (nomark _)) (pss_one (ps_ret (pe_lst (pa_cons (pe_ix ix_tup (pv 0) pe_int (fun _ _ => rfl)) pa_nil)))) pss_nil)
      (pss_one (ps_ret (pe_lst pa_nil))))))))))), ?_⟩
    obtain ⟨w0, r, rfl, fi⟩ := hf.inv
    obtain ⟨a, xs, rfl, ha, hs⟩ := hv.tupE
    obtain ⟨v0, vs, rfl, h0, hr'⟩ := hs.consE
    have hz : w0.length ≤ 1000 := by cases h0; assumption
    obtain rfl : v0 = .str w0 := by cases h0; rfl
    have sL := sizeLine_eq
    have at0 : atI (V.str w0 :: vs) 0 = some (.str w0) := atI_nat (j := 0) rfl
    have fin : ∀ {us : List V}, DAs Z H us ks → ∀ l, H l = none → Q (.ref l) (upd H l (.lst us)) := fun {us} hus l nl => k l us _ (sadd (Same.refl H) nl) nl upd_same (hus.same (sadd (Same.refl H) nl))
    refine ⟨_, rfl, a, _, 0, _, rfl, rfl, SqT.of ha, at0, ?_⟩
    refine ⟨_, rfl, aO, opsL, rfl, O.tO _, trivial, _, rfl, ?_⟩
    have eo : (opsL.any fun k => decide (V.str w0 = .str k)) = decide (w0 ∈ opsL) := by
      rw [(DA.str (Z := Z) (H := H) w0 hz).ops]
      show (opsL.any fun k => decide (w0 = k)) = _
      rw [Bool.eq_iff_iff, List.any_eq_true, decide_eq_true_iff]
      exact ⟨fun ⟨k, m, e⟩ => by rw [of_decide_eq_true e]; exact m, fun m => ⟨w0, m, decide_eq_true rfl⟩⟩
    rw [eo]
    by_cases q0 : w0 ∈ opsL
    · rw [decide_eq_true q0]
      obtain ⟨d1, d2, rfl, rfl⟩ := fi.op q0
      obtain ⟨u1, u2, rfl, g1, g2⟩ := hr'.two
      exact iteT ⟨_, rfl, a, _, 1, _, rfl, rfl, SqT.of ha, atI_nat (j := 1) rfl, _, rfl, a, _, 2, _, rfl, rfl, SqT.of ha, atI_nat (j := 2) rfl, (by show 2 ≤ sizeLine; decide), fin (.cons g1 (.cons g2 .nil))⟩
    rw [decide_eq_false q0]
    refine iteF ⟨_, rfl, rfl, _, rfl, ?_⟩
    have nx : ∀ {k : Str}, decide (V.str w0 = V.str k) = decide (w0 = k) := fun {k} => decide_eq_decide.mpr ⟨fun q => by injection q, fun q => by rw [q]⟩
    have lv := hr'.len
    -- cell, let
    refine' cutA (A := w0 ≠ "cell" ∧ w0 ≠ "let") (fun key => ?_) ?_
    rotate_left
    · have both : (w0 = "cell" ∨ w0 = "let") → ∃ n a1 u1 u2, r = [n, a1] ∧ ks = [a1] ∧ vs = [u1, u2] ∧ DA Z H u2 a1 := fun q => by
        obtain ⟨n, a1, e1, e2⟩ := fi.one q
        rw [e1] at hr'
        obtain ⟨u1, u2, e3, g1, g2⟩ := hr'.two
        exact ⟨n, a1, u1, u2, e1, e2, e3, g2⟩
      by_cases q1 : w0 = "cell"
      · obtain ⟨n, a1, u1, u2, e1, e2, e3, g2⟩ := both (.inl q1)
        have ha' : H a = some (.tup [.str w0, u1, u2]) := by rw [ha, e3]
        rw [nx, decide_eq_true q1]
        exact iteT (iteT ⟨_, rfl, a, _, 2, _, rfl, rfl, SqT.of ha', atI_nat (j := 2) rfl, (by show 1 ≤ sizeLine; decide), fin (by rw [e2]; exact .cons g2 .nil)⟩)
      · rw [nx, decide_eq_false q1]
        refine iteF ⟨_, rfl, rfl, _, rfl, ?_⟩
        by_cases q2 : w0 = "let"
        · obtain ⟨n, a1, u1, u2, e1, e2, e3, g2⟩ := both (.inr q2)
          have ha' : H a = some (.tup [.str w0, u1, u2]) := by rw [ha, e3]
          rw [nx, decide_eq_true q2]
          exact iteT ⟨_, rfl, a, _, 2, _, rfl, rfl, SqT.of ha', atI_nat (j := 2) rfl, (by show 1 ≤ sizeLine; decide), fin (by rw [e2]; exact .cons g2 .nil)⟩
        · rw [nx, decide_eq_false q2]
          exact iteF (key ⟨q1, q2⟩)
    rintro ⟨q1, q2⟩
    -- store
    refine ⟨_, rfl, rfl, _, rfl, ?_⟩
    by_cases q3 : w0 = "store"
    · rw [nx, decide_eq_true q3]
      obtain ⟨n, a1, a2, rfl, rfl⟩ := fi.store q3
      obtain ⟨u1, u2, u3, rfl, g1, g2, g3⟩ := hr'.three
      exact iteT ⟨_, rfl, a, _, 2, _, rfl, rfl, SqT.of ha, atI_nat (j := 2) rfl, _, rfl, a, _, 3, _, rfl, rfl, SqT.of ha, atI_nat (j := 3) rfl, (by show 2 ≤ sizeLine; decide), fin (.cons g2 (.cons g3 .nil))⟩
    rw [nx, decide_eq_false q3]
    refine iteF ⟨_, rfl, rfl, _, rfl, ?_⟩
    by_cases q4 : w0 = "run"
    · rw [nx, decide_eq_true q4]
      obtain ⟨z, es, rfl, rfl, _⟩ := fi.run q4
      obtain ⟨u1, u2, rfl, g1, g2⟩ := hr'.two
      obtain ⟨b, ys, rfl, hb, hbs⟩ := g2.tupE
      exact iteT ⟨_, rfl, a, _, 2, _, rfl, rfl, SqT.of ha, atI_nat (j := 2) rfl, b, ys, rfl, .inr (SqT.of hb), fin hbs⟩
    rw [nx, decide_eq_false q4]
    refine iteF ⟨_, rfl, rfl, _, rfl, ?_⟩
    by_cases q5 : w0 = "ask"
    · rw [nx, decide_eq_true q5]
      obtain ⟨y, z, a1, rfl, rfl⟩ := fi.ask q5
      obtain ⟨u1, u2, u3, rfl, g1, g2, g3⟩ := hr'.three
      exact iteT ⟨_, rfl, a, _, 3, _, rfl, rfl, SqT.of ha, atI_nat (j := 3) rfl, (by show 1 ≤ sizeLine; decide), fin (.cons g3 .nil)⟩
    rw [nx, decide_eq_false q5]
    refine iteF ⟨_, rfl, rfl, _, rfl, ?_⟩
    by_cases q6 : w0 = "if"
    · rw [nx, decide_eq_true q6]
      obtain ⟨a1, es, fs, rfl, rfl⟩ := fi.if_ q6
      obtain ⟨u1, u2, u3, rfl, g1, g2, g3⟩ := hr'.three
      obtain ⟨b, ys, rfl, hb, hbs⟩ := g2.tupE
      obtain ⟨c, zs, rfl, hc, hcs⟩ := g3.tupE
      have l1 := hbs.len
      have l2 := hcs.len
      refine iteT ⟨_, rfl, a, _, 1, _, rfl, rfl, SqT.of ha, atI_nat (j := 1) rfl, _, rfl, a, _, 2, _, rfl, rfl, SqT.of ha, atI_nat (j := 2) rfl, b, ys, rfl, .inl (SqT.of hb), _, rfl, a, _, 3, _, rfl, rfl, SqT.of ha, atI_nat (j := 3) rfl, c, zs, rfl, .inl (SqT.of hc), ?_, ?_⟩
      · show (u1 :: (ys ++ (zs ++ []))).length ≤ _
        rw [List.append_nil, List.length_cons, List.length_append, sL]
        rw [List.length_cons, List.length_append] at hl
        omega
      · have g := fin (.cons g1 (hbs.app hcs))
        rw [← List.append_nil zs] at g
        exact g
    rw [nx, decide_eq_false q6]
    refine iteF ⟨_, rfl, rfl, _, rfl, ?_⟩
    by_cases q7 : w0 = "while"
    · rw [nx, decide_eq_true q7]
      obtain ⟨a1, es, rfl, rfl⟩ := fi.while_ q7
      obtain ⟨u1, u2, rfl, g1, g2⟩ := hr'.two
      obtain ⟨b, ys, rfl, hb, hbs⟩ := g2.tupE
      have l1 := hbs.len
      refine iteT ⟨_, rfl, a, _, 1, _, rfl, rfl, SqT.of ha, atI_nat (j := 1) rfl, _, rfl, a, _, 2, _, rfl, rfl, SqT.of ha, atI_nat (j := 2) rfl, b, ys, rfl, .inl (SqT.of hb), ?_, ?_⟩
      · show (u1 :: (ys ++ [])).length ≤ _
        rw [List.append_nil, List.length_cons, sL]
        rw [List.length_cons] at hl
        omega
      · have g := fin (.cons g1 hbs)
        rw [← List.append_nil ys] at g
        exact g
    rw [nx, decide_eq_false q7]
    refine iteF ⟨_, rfl, rfl, _, rfl, ?_⟩
    by_cases q8 : w0 = "give"
    · rw [nx, decide_eq_true q8]
      obtain ⟨a1, rfl, rfl⟩ := fi.give q8
      obtain ⟨u1, us, rfl, g1, g2⟩ := hr'.consE
      exact iteT ⟨_, rfl, a, _, 1, _, rfl, rfl, SqT.of ha, atI_nat (j := 1) rfl, (by show 1 ≤ sizeLine; decide), fin (.cons g1 .nil)⟩
    rw [nx, decide_eq_false q8]
    refine iteF ⟨(by show 0 ≤ sizeLine; decide), ?_⟩
    have e9 := fi.rest q0 q1 q2 q3 q4 q5 q6 q7 q8
    exact fin (by rw [e9]; exact .nil)
end
end OH
end
section
set_option Elab.async false
set_option linter.all false
set_option maxRecDepth 100000
set_option maxHeartbeats 4000000
/-! The nodes of a body, listed. -/
namespace OH
open PySem PySem.Spec PyProof.Rows L2
theorem pi_or {X : Cx} {tg e : Expr} {w1 w2 : TI} (h1 : PI X tg e w1) (h2 : PI X tg e w2) : PI X tg e (fun σ H R => w1 σ H R ∨ w2 σ H R) :=
  ⟨fun pins s σ H R I h => h.elim (h1.run pins s σ H R I) (h2.run pins s σ H R I)⟩
section
variable {Z Z' : Addr → Prop} {H H' : Hp}
mutual
theorem DA.here {v : V} {d : PyData} : DA Z H v d → DA (fun q => Z q ∧ H q ≠ none) H v d
  | .non => .non
  | .bl b => .bl b
  | .int i => .int i
  | .str x h => .str x h
  | .lst h z hs => .lst h ⟨z, by rw [h]; exact fun q => nomatch q⟩ (DAs.here hs)
  | .tup h hs => .tup h (DAs.here hs)
theorem DAs.here {vs : List V} {ds : List PyData} : DAs Z H vs ds → DAs (fun q => Z q ∧ H q ≠ none) H vs ds
  | .nil => .nil
  | .cons h hs => .cons (DA.here h) (DAs.here hs)
end
mutual
theorem DA.wide (f : ∀ q, Z q → Z' q) {v : V} {d : PyData} : DA Z H v d → DA Z' H v d
  | .non => .non
  | .bl b => .bl b
  | .int i => .int i
  | .str x h => .str x h
  | .lst h z hs => .lst h (f _ z) (DAs.wide f hs)
  | .tup h hs => .tup h (DAs.wide f hs)
theorem DAs.wide (f : ∀ q, Z q → Z' q) {vs : List V} {ds : List PyData} : DAs Z H vs ds → DAs Z' H vs ds
  | .nil => .nil
  | .cons h hs => .cons (DA.wide f h) (DAs.wide f hs)
end
/-- a list that the data do not know changes -/
theorem DAs.updL {D : Addr} {xs : List V} {o : HO} {vs : List V} {ds : List PyData} (h : DAs Z H vs ds) (hD : H D = some (.lst xs)) (nz : ¬ Z D) : DAs Z (upd H D o) vs ds :=
  h.ext (fun q ys e => (upd_ne (ne_of e hD (fun z => nomatch z))).trans e) fun q ys z e => (upd_ne (fun y => nz (by rw [← y]; exact z))).trans e
theorem DA.updL {D : Addr} {xs : List V} {o : HO} {v : V} {d : PyData} (h : DA Z H v d) (hD : H D = some (.lst xs)) (nz : ¬ Z D) : DA Z (upd H D o) v d :=
  h.ext (fun q ys e => (upd_ne (ne_of e hD (fun z => nomatch z))).trans e) fun q ys z e => (upd_ne (fun y => nz (by rw [← y]; exact z))).trans e
end
/-- behind a new list that has changed all else stands -/
theorem Same.updL {H0 H : Hp} {D : Addr} {o : HO} (s : Same H0 H) (n : H0 D = none) : Same H0 (upd H D o) := fun q u e => (upd_ne (ne_of_none e n)).trans (s q u e)
theorem nodes_ge {R : Str → Prop} : ∀ (d : Nat) (xs : List PyData), (∀ x ∈ xs, NdOk R d x) → xs.length ≤ (nodesIn d xs).length
  | _, [], _ => Nat.zero_le _
  | 0, x :: xs, h => (h x List.mem_cons_self).elim
  | d + 1, x :: xs, h => by
    have ih := nodes_ge (d + 1) xs fun y m => h y (List.mem_cons_of_mem _ m)
    rw [nodesIn_cons, nodesIn_one, List.length_append, List.length_cons, List.length_cons]
    omega
/-- a tuple or a list of these items -/
def SeqH (H : Hp) (a : Addr) (xs : List V) : Prop := H a = some (.tup xs) ∨ H a = some (.lst xs)
theorem SeqH.same {H H' : Hp} {a : Addr} {xs : List V} (h : SeqH H a xs) (s : Same H H') : SeqH H' a xs := h.elim (fun e => .inl (s _ _ e)) fun e => .inr (s _ _ e)
def spNodes (d : Nat) : Sp := fun vs H Q _ => ∃ (Z : Addr → Prop) (R : Str → Prop) (a : Addr) (xs : List V) (ds : List PyData), vs = [.ref a] ∧ SeqH H a xs ∧ DAs Z H xs ds ∧ (∀ x ∈ ds, NdOk R d x) ∧ (nodesIn d ds).length ≤ 1000 ∧
  ∀ l vs' H', Same H H' → H l = none → H' l = some (.lst vs') → DAs Z H' vs' (nodesIn d ds) → Q (.ref l) H'
def spPN : Nat → Sp
  | 0 => fun _ _ _ _ => False
  | d + 1 => spNodes d
theorem cut3 {A B G : Prop} (h : A → B → G) (a : A) (b : B) : G := h a b
section
variable {P : Program} {w : World} {K : PySem.W.Frag} {mg : Str → Option Value} {base : Heap}
theorem sc_nodes_in : FnScope ["body", "found", "node"] ["body"] (defScope s_nodes_in) := ⟨rfl, rfl, rfl, by decide +kernel, rfl, by decide +kernel, by decide +kernel⟩
theorem ok_nodes_step {f : Addr} {fd : FuncData} (d : Nat) (F : Fun K "nodes_in" "nodes_in" s_nodes_in f fd) (DC : DefF P w K mg base CX0 1 "children" ["node"] spChildren) (DN : DefF P w K mg base CX0 (d + 1) "nodes_in" ["body"] (spPN d)) :
    FnOk P w K mg base CX0 (d + 2) f fd ["body"] (spNodes d) := by
  refine F.ok sc_nodes_in (fun vs H Q E h => ?_) (fun cdv A outer s H vs Q E hr h => ?_)
  · obtain ⟨Z, R, a, xs, ds, rfl, _⟩ := h
    rfl
  · obtain ⟨Z, R, a, xs, ds, rfl, ha, hs, ok, few, k⟩ := h
    have nd0 := sc_nodes_in.nd
    have hr1 : Room 1 _ := hr.mono (show 1 ≤ d + 1 by omega)
    refine ⟨_, pss_cons (ps_set (i := 1) nd0 rfl (Or.inl rfl) (pe_lst pa_nil))
      (pss_cons (ps_for PassesOwn.never rfl (pi_or (pi_tup (pv 0)) (pi_list (pv 0))) (pg_name (i := 2) nd0 rfl (Or.inl rfl))
        (pss_cons (ps_expr (pe_bm PySem.F.plainAttrs_list PySem.F.slot_list_append PySem.F.type_list_append mt_append (pv 1) (pa_cons (pv 2) pa_nil)))
        (pss_one (ps_expr (pe_bm PySem.F.plainAttrs_list PySem.F.slot_list_extend PySem.F.type_list_extend mt_extend (pv 1) (pa_cons (pe_cD DN hr rfl pass0 (pa_cons (pe_cD DC hr1 rfl pass0 (pa_cons (pv 2) pa_nil)) pa_nil)) pa_nil))))))
      (pss_one (ps_ret (pv 1)))), ?_⟩
    have sL := sizeLine_eq
    have el := hs.len
    refine ⟨(by show 0 ≤ sizeLine; decide), fun D nD => ?_⟩
    have s0 := sadd (o := .lst []) (Same.refl H) nD
    have hD0 : upd H D (.lst []) D = some (.lst []) := upd_same
    have hZ : ¬ (Z D ∧ H D ≠ none) := fun z => z.2 nD
    have h0 : DAs (fun q => Z q ∧ H q ≠ none) H xs ds := hs.here
    have ha0 := ha.same s0
    generalize upd H D (.lst []) = H0 at s0 hD0 ha0 ⊢
    have pre : ∀ i, (nodesIn d (ds.take i)).length + (nodesIn d (ds.drop i)).length ≤ 1000 := fun i => by
      rw [← List.length_append, ← nodesIn_app, List.take_append_drop]
      exact few
    refine' cut3 (fun turn done => ?_) ?_ ?_
    rotate_left 2
    · rcases ha0 with h | h
      · exact .inl ⟨_, rfl, a, rfl, ⟨_, SqT.of h⟩, for_tup (xs := xs) (fun i σ H' => ∃ (o : Option V) (vs' : List V), σ = [some (.ref a), some (.ref D), o] ∧ Same H H' ∧ H' D = some (.lst vs') ∧ DAs (fun q => Z q ∧ H q ≠ none) H' vs' (nodesIn d (ds.take i))) ⟨none, [], rfl, s0, hD0, by rw [List.take_zero, nodesIn_nil]; exact .nil⟩ (fun i σ H' _ ⟨o, vs', _, c, _⟩ => SqT.of (c a _ (ha.elim id fun z => by have := s0 _ _ z; rw [h] at this; cases this))) turn done⟩
      · exact .inr ⟨_, rfl, a, rfl, ⟨_, SqL.of h⟩, for_list (xs := xs) (fun i σ H' => ∃ (o : Option V) (vs' : List V), σ = [some (.ref a), some (.ref D), o] ∧ Same H H' ∧ H' D = some (.lst vs') ∧ DAs (fun q => Z q ∧ H q ≠ none) H' vs' (nodesIn d (ds.take i))) ⟨none, [], rfl, s0, hD0, by rw [List.take_zero, nodesIn_nil]; exact .nil⟩ (fun i σ H' _ ⟨o, vs', _, c, _⟩ => SqL.of (c a _ (ha.elim (fun z => by have := s0 _ _ z; rw [h] at this; cases this) id))) turn done⟩
    · rintro i u σ H2 hu ⟨o, vs', rfl, s2, hD2, dv⟩
      obtain ⟨x, hx, hda⟩ := h0.get hu
      have hx2 := hda.same s2
      have il := (List.getElem?_eq_some_iff.mp hu).1
      cases d with
      | zero => exact (ok x (List.mem_of_getElem? hx)).elim
      | succ e =>
      obtain ⟨fx, kx⟩ := ok x (List.mem_of_getElem? hx)
      have et : nodesIn (e + 1) (ds.take (i + 1)) = nodesIn (e + 1) (ds.take i) ++ x :: nodesIn e (kids x) := by
        rw [List.take_add_one, hx, nodesIn_app]
        show _ ++ nodesIn (e + 1) [x] = _
        rw [nodesIn_one]
      have lt := pre (i + 1)
      rw [et, List.length_append, List.length_cons] at lt
      have lv := dv.len
      have lk := nodes_ge e (kids x) kx
      refine ⟨_, rfl, .inl ⟨rfl, _, SqL.of hD2⟩, _, rfl, D, vs', u, rfl, rfl, hD2, by omega, ?_⟩
      have s3 : Same H (upd H2 D (.lst (vs' ++ [u]))) := Same.updL s2 nD
      have hD3 : upd H2 D (.lst (vs' ++ [u])) D = some (.lst (vs' ++ [u])) := upd_same
      have dv3 : DAs (fun q => Z q ∧ H q ≠ none) (upd H2 D (.lst (vs' ++ [u]))) (vs' ++ [u]) (nodesIn (e + 1) (ds.take i) ++ [x]) := (dv.updL hD2 hZ).app (.cons (hx2.updL hD2 hZ) .nil)
      have hx3 := hx2.updL (o := .lst (vs' ++ [u])) hD2 hZ
      generalize upd H2 D (.lst (vs' ++ [u])) = H3 at s3 hD3 dv3 hx3 ⊢
      refine ⟨_, rfl, .inl ⟨rfl, _, SqL.of hD3⟩, _, rfl, _, R, u, x, kids x, rfl, hx3, fx, by omega, fun l1 k1 H4 s34 n1 hl1 dk => ?_⟩
      refine ⟨_, R, l1, k1, kids x, rfl, .inr hl1, dk, kx, by omega, fun l2 k2 H5 s45 n2 hl2 dn => ?_⟩
      have hD5 := (s34.trans s45) _ _ hD3
      have ln := dn.len
      refine ⟨D, l2, _, k2, rfl, rfl, hD5, hl2, by rw [List.length_append, List.length_singleton]; omega, ?_⟩
      refine ⟨some u, _, rfl, Same.updL (s3.trans (s34.trans s45)) nD, upd_same, ?_⟩
      rw [et]
      have d5 := ((dv3.same (s34.trans s45)).app dn).updL (o := .lst (vs' ++ [u] ++ k2)) hD5 hZ
      rw [show nodesIn (e + 1) (ds.take i) ++ [x] ++ nodesIn e (kids x) = nodesIn (e + 1) (ds.take i) ++ x :: nodesIn e (kids x) from List.append_assoc ..] at d5
      exact d5
    · rintro σ H2 ⟨o, vs', rfl, s2, hD2, dv⟩
      rw [el, List.take_length] at dv
      exact ⟨_, rfl, k D vs' H2 s2 nD hD2 (dv.wide fun q z => z.1)⟩
theorem ok_nodes_in {f : Addr} {fd : FuncData} (F : Fun K "nodes_in" "nodes_in" s_nodes_in f fd) (m : mg "nodes_in" = some (.ref f)) (kk : PySem.W.keepIn K (.ref f) = true) (b : Binds K fd ["body"] []) (DC : DefF P w K mg base CX0 1 "children" ["node"] spChildren) : ∀ d : Nat, FnOk P w K mg base CX0 (d + 2) f fd ["body"] (spNodes d)
  | 0 => by
    have v0 : FnOk P w K mg base CX0 1 f fd ["body"] (spPN 0) := F.ok sc_nodes_in (fun vs H Q E h => h.elim) (fun cdv A outer s H vs Q E hr h => h.elim)
    exact ok_nodes_step 0 F DC ⟨f, fd, v0, m, kk, b⟩
  | d + 1 => ok_nodes_step (d + 1) F DC ⟨f, fd, ok_nodes_in F m kk b DC d, m, kk, b⟩
end
end OH
end
section
set_option Elab.async false
set_option linter.all false
set_option maxRecDepth 100000
set_option maxHeartbeats 4000000
/-! The parts of a room. -/
namespace OH
open PySem PySem.Spec PyProof.Rows L2
/-- a good room as it stands in the heap -/
structure RmAt (Z : Addr → Prop) (H : Hp) (v : V) (z : Str) (i b : PyData) (fs ds : List PyData) : Prop where
  da : DA Z H v (.tuple [.str z, i, b, .tuple fs, .tuple ds])
  af : fs.all funHJ = true
  ad : ds.all doorHJ = true
  lf : fs.length ≤ 6
  ld : ds.length ≤ 6
  l1 : 1 ≤ ds.length
  un : ((fs ++ ds).map nameB).Nodup
theorem RmAt.same {Z : Addr → Prop} {H H' : Hp} {v : V} {z : Str} {i b : PyData} {fs ds : List PyData} (h : RmAt Z H v z i b fs ds) (s : Same H H') : RmAt Z H' v z i b fs ds := ⟨h.da.same s, h.af, h.ad, h.lf, h.ld, h.l1, h.un⟩
theorem headsJ_all {f d : PyData} (h : headsJ f d = true) : ∃ fs ds, f = .tuple fs ∧ d = .tuple ds ∧ fs.length ≤ 6 ∧ ds.length ≤ 6 ∧ 1 ≤ ds.length ∧ fs.all funHJ = true ∧ ds.all doorHJ = true ∧ ((fs ++ ds).map nameB).Nodup := by
  unfold headsJ at h
  rw [Bool.and_eq_true, Bool.and_eq_true, Bool.and_eq_true, Bool.and_eq_true] at h
  obtain ⟨h1, h2, h3, h4, h5⟩ := h
  obtain ⟨fs, rfl, l1, l2⟩ := tupJ_iff h1
  obtain ⟨ds, rfl, m1, m2⟩ := tupJ_iff h2
  exact ⟨fs, ds, rfl, rfl, by omega, by omega, by omega, h3, h4, of_decide_eq_true h5⟩
/-- what a room that is judged good looks like -/
theorem roomJ_at {Z : Addr → Prop} {H : Hp} {v : V} {d : PyData} (h : DA Z H v d) (j : roomJ d = true) : ∃ z i b fs ds, d = .tuple [.str z, i, b, .tuple fs, .tuple ds] ∧ RmAt Z H v z i b fs ds ∧ bodiesJ (ctx0 i b) fs ds = true ∧ impsJ z i = true := by
  unfold roomJ at j
  rw [Bool.and_eq_true, Bool.and_eq_true, Bool.and_eq_true, Bool.and_eq_true, Bool.and_eq_true] at j
  obtain ⟨j1, j2, j3, j4, j5, j6⟩ := j
  obtain ⟨ds, rfl, l1, l2⟩ := tupJ_iff j1
  match ds, l1, l2 with
  | [d0, d1, d2, d3, d4], _, _ =>
    obtain ⟨z, e⟩ := nameJ_iff j2
    cases (show d0 = .str z from e)
    obtain ⟨fs, dr, e3, e4, q1, q2, q3, q4, q5, q6⟩ := headsJ_all j5
    cases (show d3 = .tuple fs from e3)
    cases (show d4 = .tuple dr from e4)
    exact ⟨z, d1, d2, fs, dr, rfl, ⟨h, q4, q5, q1, q2, q3, q6⟩, j6, j3⟩
def partOf (ps : List PyData) : PyData → Option PyData
  | .str z => ps.find? fun p => decide (nameB p = z)
  | _ => none
def spPartsOf : Sp := fun vs H Q _ => ∃ (Z : Addr → Prop) (v : V) (z : Str) (i b : PyData) (fs ds : List PyData), vs = [v] ∧ RmAt Z H v z i b fs ds ∧ ∀ p xs H', Same H H' → H' p = some (.tup xs) → DAs Z H' xs (fs ++ ds) → Q (.ref p) H'
def spPartC : Sp := fun vs H Q _ => ∃ (Z : Addr → Prop) (v u : V) (z : Str) (i b y : PyData) (fs ds : List PyData), vs = [v, u] ∧ RmAt Z H v z i b fs ds ∧ DA Z H u y ∧ (partOf (fs ++ ds) y = none → ∀ H', Same H H' → Q .non H') ∧
  ∀ p x H', Same H H' → partOf (fs ++ ds) y = some p → DA Z H' x p → Q x H'
theorem part_fst {fs ds : List PyData} (af : fs.all funHJ = true) (ad : ds.all doorHJ = true) {p : PyData} (m : p ∈ fs ++ ds) : ∃ z es, p = .tuple (.str z :: es) := by
  rcases List.mem_append.mp m with m | m
  · exact funHJ_fst p (List.all_eq_true.mp af p m)
  · exact doorHJ_fst p (List.all_eq_true.mp ad p m)
section
variable {P : Program} {w : World} {K : PySem.W.Frag} {mg : Str → Option Value} {base : Heap}
theorem sc_parts_of : FnScope ["source"] ["source"] (defScope s_parts_of) := ⟨rfl, rfl, rfl, by decide +kernel, rfl, by decide +kernel, by decide +kernel⟩
theorem ok_parts_of {f : Addr} {fd : FuncData} (F : Fun K "parts_of" "parts_of" s_parts_of f fd) : FnOk P w K mg base CX0 1 f fd ["source"] spPartsOf := by
  refine F.ok sc_parts_of (fun vs H Q E h => ?_) (fun cdv A outer s H vs Q E hr h => ?_)
  · obtain ⟨Z, v, z, i, b, fs, ds, rfl, _⟩ := h
    rfl
  · obtain ⟨Z, v, z, i, b, fs, ds, rfl, hR, k⟩ := h
    refine ⟨_, pss_one (ps_ret (pe_op op_catA (pe_ix ix_tup (pv 0) pe_int (fun _ _ => rfl)) (pe_ix ix_tup (pv 0) pe_int (fun _ _ => rfl)))), ?_⟩
    obtain ⟨a, xs, rfl, ha, hs⟩ := hR.da.tupE
    obtain ⟨v0, v1, v2, v3, v4, rfl, h0, h1, h2, h3, h4⟩ := hs.five
    obtain ⟨fa, fxs, rfl, hfa, hfs⟩ := h3.tupE
    obtain ⟨da, dxs, rfl, hda, hds⟩ := h4.tupE
    have lf := hfs.len
    have ld := hds.len
    have b1 := hR.lf
    have b2 := hR.ld
    have b3 := hR.l1
    have sL := sizeLine_eq
    refine ⟨_, rfl, a, _, 3, _, rfl, rfl, SqT.of ha, atI_nat (j := 3) rfl, _, rfl, a, _, 4, _, rfl, rfl, SqT.of ha, atI_nat (j := 4) rfl, ?_⟩
    refine ⟨fa, da, fxs, dxs, rfl, rfl, SqT.of hfa, SqT.of hda, by omega, fun e => ?_, fun _ e => ?_, fun _ _ p np => ?_⟩
    · subst e
      cases fs with
      | nil => exact k da dxs H (Same.refl H) hda hds
      | cons _ _ => cases lf
    · rw [e] at ld
      exact absurd ld (by show ¬ 0 = _; omega)
    · exact k p _ _ (sadd (Same.refl H) np) upd_same ((hfs.app hds).same (sadd (Same.refl H) np))
theorem sc_part_called : FnScope ["source", "name", "part"] ["source", "name"] (defScope s_part_called) := ⟨rfl, rfl, rfl, by decide +kernel, rfl, by decide +kernel, by decide +kernel⟩
theorem ok_part_called {f : Addr} {fd : FuncData} (F : Fun K "part_called" "part_called" s_part_called f fd) (T : Txt K mg) (DP : DefF P w K mg base CX0 1 "parts_of" ["source"] spPartsOf) : FnOk P w K mg base CX0 2 f fd ["source", "name"] spPartC := by
  refine F.ok sc_part_called (fun vs H Q E h => ?_) (fun cdv A outer s H vs Q E hr h => ?_)
  · obtain ⟨Z, v, u, z, i, b, y, fs, ds, rfl, _⟩ := h
    rfl
  · obtain ⟨Z, v, u, z, i, b, y, fs, ds, rfl, hR, hu, k1, k2⟩ := h
    have nd0 := sc_part_called.nd
    refine ⟨_, pss_cons (ps_if (pt_not (pt_val (pe_callB call_isi (by rfl) T.nIsi (by decide +kernel) (pa_cons (pv 1) (pa_cons (pe_bltn (v := .ty "str") (by rfl) T.nStr (by decide +kernel) rfl) pa_nil))))) (pss_one (ps_ret pe_non)) pss_nil)
      (pss_cons (ps_for PassesOwn.never rfl (pi_tup (pe_cD DP hr rfl pass0 (pa_cons (pv 0) pa_nil))) (pg_name (i := 2) nd0 rfl (Or.inl rfl))
        (pss_one (ps_if (pt_cmpR op_eq (pe_ix ix_tup (pv 2) pe_int (fun _ _ => rfl)) (pv 1) (nomark _)) (pss_one (ps_ret (pv 2))) pss_nil)))
      (pss_one (ps_ret pe_non))), ?_⟩
    refine ⟨_, rfl, _, _, _, _, _, rfl, .ty "str", hu.ty, kit_ty (kit_S y), _, rfl, ?_⟩
    cases es : isSD y with
    | false => exact iteT (k1 (by cases y <;> first | rfl | cases es) H (Same.refl H))
    | true =>
    obtain ⟨n, rfl, rfl⟩ := hu.strOf es
    refine iteF ⟨_, rfl, Z, v, z, i, b, fs, ds, rfl, hR, fun p xs H1 s1 hp hx => ⟨p, rfl, ⟨_, SqT.of hp⟩, ?_⟩⟩
    have el := hx.len
    refine for_tup (xs := xs) (fun j σ H' => H' = H1 ∧ (∃ o : Option V, σ = [some v, some (.str n), o]) ∧ ∀ q ∈ (fs ++ ds).take j, nameB q ≠ n) ⟨rfl, ⟨none, rfl⟩, fun q m => absurd m List.not_mem_nil⟩ (fun j σ H' _ e => by rw [e.1]; exact SqT.of hp) ?turn ?done
    case turn =>
      rintro j x σ H2 hj ⟨rfl, ⟨o, rfl⟩, no⟩
      obtain ⟨q, hq, hda⟩ := hx.get hj
      obtain ⟨z1, es, rfl⟩ := part_fst hR.af hR.ad (List.mem_of_getElem? hq)
      obtain ⟨a1, ys, rfl, ha1, hys⟩ := hda.tupE
      obtain ⟨u0, us, rfl, g0, g1⟩ := hys.consE
      have e0 : u0 = .str z1 := by cases g0; rfl
      subst e0
      refine ⟨_, rfl, a1, _, 0, _, rfl, rfl, SqT.of ha1, atI_nat (j := 0) rfl, _, rfl, rfl, _, rfl, ?_⟩
      refine ite2 (fun q => ?_) (fun q => ?_)
      · have e : z1 = n := by simpa using q
        refine ⟨_, rfl, k2 _ _ H2 s1 ?_ hda⟩
        show (fs ++ ds).find? (fun p => decide (nameB p = n)) = _
        have il := (List.getElem?_eq_some_iff.mp hq).1
        have dec : fs ++ ds = (fs ++ ds).take j ++ .tuple (.str z1 :: es) :: (fs ++ ds).drop (j + 1) := by
          have e1 : (fs ++ ds).take (j + 1) = (fs ++ ds).take j ++ [.tuple (.str z1 :: es)] := by rw [List.take_add_one, hq]; rfl
          calc fs ++ ds = (fs ++ ds).take (j + 1) ++ (fs ++ ds).drop (j + 1) := (List.take_append_drop _ _).symm
            _ = _ := by rw [e1, List.append_assoc]; rfl
        rw [dec, List.find?_append, List.find?_eq_none.mpr fun x m => by simpa using no x m, List.find?_cons_of_pos (by exact decide_eq_true e)]
        rfl
      · have e : ¬ z1 = n := by simpa using q
        refine ⟨rfl, ⟨some (.ref a1), rfl⟩, fun q m => ?_⟩
        rw [List.take_add_one, hq] at m
        rcases List.mem_append.mp m with m | m
        · exact no q m
        · rw [List.mem_singleton.mp m]
          exact e
    case done =>
      rintro σ H2 ⟨rfl, ⟨o, rfl⟩, no⟩
      rw [el, List.take_length] at no
      exact k1 (List.find?_eq_none.mpr fun x m => by simpa using no x m) H2 s1
end
end OH
end
section
set_option Elab.async false
set_option linter.all false
set_option maxRecDepth 100000
set_option maxHeartbeats 4000000
/-! What runs lead to, in plain words. -/
namespace OH
open PySem PySem.Spec PyProof.Rows L2
def isRun : PyData → Option Str
  | .tuple [.str w, .str z, .tuple _] => if w = "run" then some z else none
  | _ => none
def bodyD (p : PyData) : List PyData := itemsD ((itemsD p).getLastD .none)
def bodyN (p : PyData) : List PyData := nodesIn 12 (bodyD p)
def runsP (p : PyData) : List Str := (bodyN p).filterMap isRun
/-- the names that runs lead to -/
inductive Reach (ps : List PyData) : PyData → Str → Prop
  | one {p : PyData} {z : Str} (h : z ∈ runsP p) : Reach ps p z
  | more {p q : PyData} {z y : Str} (h : z ∈ runsP p) (hq : partOf ps (.str z) = some q) (r : Reach ps q y) : Reach ps p y
theorem Reach.trans {ps : List PyData} {p q : PyData} {z y : Str} (h : Reach ps p z) (hq : partOf ps (.str z) = some q) (r : Reach ps q y) : Reach ps p y := by
  induction h with
  | one h => exact .more h hq r
  | more h h2 _ ih => exact .more h h2 (ih hq)
/-- by the nodes of a body, as far as they have been looked at -/
def RS (ps xs : List PyData) (z : Str) : Prop := ∃ x ∈ xs, ∃ z', isRun x = some z' ∧ (z = z' ∨ ∃ q, partOf ps (.str z') = some q ∧ Reach ps q z)
theorem reach_rs {ps : List PyData} {p : PyData} {z : Str} : Reach ps p z ↔ RS ps (bodyN p) z := by
  constructor
  · intro h
    cases h with
    | one h =>
      obtain ⟨x, m, e⟩ := List.mem_filterMap.mp h
      exact ⟨x, m, z, e, .inl rfl⟩
    | more h hq r =>
      obtain ⟨x, m, e⟩ := List.mem_filterMap.mp h
      exact ⟨x, m, _, e, .inr ⟨_, hq, r⟩⟩
  · rintro ⟨x, m, z', e, h⟩
    have hm : z' ∈ runsP p := List.mem_filterMap.mpr ⟨x, m, e⟩
    rcases h with rfl | ⟨q, hq, r⟩
    · exact .one hm
    · exact .more hm hq r
/-- the names of the first functions -/
def Rk (fs : List PyData) (k : Nat) (z : Str) : Prop := ∃ (j : Nat) (f : PyData), j < k ∧ fs[j]? = some f ∧ nameB f = z
/-- a part whose body runs the first functions alone -/
structure PtOk (fs : List PyData) (k : Nat) (p : PyData) : Prop where
  sh : ∃ pre body, p = .tuple (pre ++ [.tuple body])
  nd : ∀ x ∈ bodyD p, NdOk (Rk fs k) 12 x
  fw : (bodyN p).length ≤ 200
structure RoOk (fs ds : List PyData) : Prop where
  fn : ∀ j f, fs[j]? = some f → PtOk fs j f
  dr : ∀ d ∈ ds, PtOk fs fs.length d
theorem bodyD_snoc (pre body : List PyData) : bodyD (.tuple (pre ++ [.tuple body])) = body := by
  show itemsD ((pre ++ [PyData.tuple body]).getLastD PyData.none) = body
  rw [List.getLastD_eq_getLast?, List.getLast?_concat]
  rfl
theorem nodup_inj {ps : List PyData} (h : (ps.map nameB).Nodup) : ∀ {p q : PyData}, p ∈ ps → q ∈ ps → nameB p = nameB q → p = q := by
  induction ps with
  | nil => intro p q hp; exact absurd hp List.not_mem_nil
  | cons x xs ih =>
    intro p q hp hq e
    rw [List.map_cons, List.nodup_cons] at h
    rcases List.mem_cons.mp hp with e1 | hp1
    · rcases List.mem_cons.mp hq with e2 | hq1
      · rw [e1, e2]
      · exact absurd (by rw [← e1, e]; exact List.mem_map.mpr ⟨q, hq1, rfl⟩) h.1
    · rcases List.mem_cons.mp hq with e2 | hq1
      · exact absurd (by rw [← e2, ← e]; exact List.mem_map.mpr ⟨p, hp1, rfl⟩) h.1
      · exact ih h.2 hp1 hq1 e
theorem partOf_mem {ps : List PyData} (h : (ps.map nameB).Nodup) {p : PyData} (hp : p ∈ ps) : partOf ps (.str (nameB p)) = some p := by
  show ps.find? (fun q => decide (nameB q = nameB p)) = some p
  cases e : ps.find? (fun q => decide (nameB q = nameB p)) with
  | none =>
    have := List.find?_eq_none.mp e p hp
    exact absurd (decide_eq_true rfl) this
  | some q =>
    have m := List.mem_of_find?_eq_some e
    have n := List.find?_some e
    rw [nodup_inj h m hp (of_decide_eq_true n)]
theorem len_sub {α : Type} [DecidableEq α] : ∀ {ks ls : List α}, ks.Nodup → (∀ x ∈ ks, x ∈ ls) → ks.length ≤ ls.length
  | [], _, _, _ => Nat.zero_le _
  | k :: ks, ls, n, h => by
    rw [List.nodup_cons] at n
    have hk := h k List.mem_cons_self
    have ih := len_sub (ks := ks) (ls := ls.erase k) n.2 fun x m => (List.mem_erase_of_ne (fun e => n.1 (by rw [← e]; exact m))).mpr (h x (List.mem_cons_of_mem _ m))
    rw [List.length_erase_of_mem hk] at ih
    have := List.length_pos_of_mem hk
    rw [List.length_cons]
    omega
/-- all nodes of a good body have a form -/
theorem nodes_form {R : Str → Prop} : ∀ (d : Nat) (xs : List PyData), (∀ x ∈ xs, NdOk R d x) → ∀ y ∈ nodesIn d xs, Form R y (kids y)
  | 0, xs, h, y, m => absurd m List.not_mem_nil
  | d + 1, xs, h, y, m => by
    obtain ⟨x, hx, my⟩ := List.mem_flatMap.mp m
    obtain ⟨f, k⟩ := h x hx
    rcases List.mem_cons.mp my with rfl | my
    · exact f
    · exact nodes_form d (kids x) k y my
theorem isRun_eq {x : PyData} {z : Str} (e : isRun x = some z) : ∃ es, x = .tuple [.str "run", .str z, .tuple es] := by
  unfold isRun at e
  split at e
  · rename_i w z1 es
    split at e
    · rename_i h
      cases e
      exact ⟨es, by rw [h]⟩
    · cases e
  · cases e
theorem isRun_run (z : Str) (es : List PyData) : isRun (.tuple [.str "run", .str z, .tuple es]) = some z := by
  show (if ("run" : Str) = "run" then some z else none) = some z
  rw [if_pos rfl]
theorem isRun_form {R : Str → Prop} {x : PyData} {ks : List PyData} (h : Form R x ks) {z : Str} (e : isRun x = some z) : R z := by
  obtain ⟨es, rfl⟩ := isRun_eq e
  obtain ⟨w, r, e2, fi⟩ := h.inv
  injection e2 with e2
  injection e2 with e3 e4
  injection e3 with e3
  obtain ⟨z1, es1, e5, _, hz⟩ := fi.run e3.symm
  rw [← e4] at e5
  injection e5 with e5
  injection e5 with e5
  rw [e5]
  exact hz
/-- what is reached is a function -/
theorem reach_fn {fs ds : List PyData} (un : ((fs ++ ds).map nameB).Nodup) (ok : RoOk fs ds) {p : PyData} {z : Str} (r : Reach (fs ++ ds) p z) : ∀ {k : Nat}, PtOk fs k p → z ∈ fs.map nameB := by
  have run1 : ∀ {p : PyData} {z : Str} {k : Nat}, PtOk fs k p → z ∈ runsP p → Rk fs k z := fun {p z k} hp hz => by
    obtain ⟨x, m, e⟩ := List.mem_filterMap.mp hz
    exact isRun_form (nodes_form 12 _ hp.nd x m) e
  induction r with
  | one h =>
    intro k hp
    obtain ⟨j, f, _, hf, e⟩ := run1 hp h
    exact List.mem_map.mpr ⟨f, List.mem_of_getElem? hf, e⟩
  | more h hq _ ih =>
    intro k hp
    obtain ⟨j, f, _, hf, e⟩ := run1 hp h
    have q := partOf_mem un (List.mem_append_left ds (List.mem_of_getElem? hf))
    rw [e, hq] at q
    injection q with q
    rw [q] at ih
    exact ih (ok.fn j f hf)
theorem run_rk {fs : List PyData} {k : Nat} {p : PyData} {x : PyData} {z : Str} (hp : PtOk fs k p) (m : x ∈ bodyN p) (e : isRun x = some z) : Rk fs k z := isRun_form (nodes_form 12 _ hp.nd x m) e
/-- the bodies of a room that is judged good -/
theorem pars_rk {fs : List PyData} (af : fs.all funHJ = true) {i b : PyData} (k : Nat) (hk : k ≤ fs.length) : ∀ z n, (addFs (ctx0 i b) (fs.take k)).pars.lookup z = some n → Rk fs k z ∧ n ≤ 4 := by
  intro z n e
  refine ⟨?_, addFs_four (fs.take k) (ctx0 i b) (fun z m q => by cases q) (List.all_eq_true.mpr fun x m => List.all_eq_true.mp af x (List.mem_of_mem_take m)) z n e⟩
  induction k with
  | zero => rw [List.take_zero] at e; cases e
  | succ k ih =>
    obtain ⟨f, hf⟩ : ∃ f, fs[k]? = some f := ⟨_, List.getElem?_eq_getElem (by omega)⟩
    rw [show fs.take (k + 1) = fs.take k ++ [f] by rw [List.take_add_one, hf]; rfl, addFs_snoc] at e
    have e : (((nameB f, (itemsD (nthD f 1)).length) :: (addFs (ctx0 i b) (fs.take k)).pars).lookup z) = some n := e
    rw [List.lookup_cons] at e
    by_cases q : z = nameB f
    · exact ⟨k, f, Nat.lt_succ_self k, hf, q.symm⟩
    · rw [show (z == nameB f) = false from beq_eq_false_iff_ne.mpr q] at e
      obtain ⟨j, g, h1, h2, h3⟩ := ih (by omega) e
      exact ⟨j, g, Nat.lt_succ_of_lt h1, h2, h3⟩
theorem bodies_fn : ∀ (fs ds : List PyData) (C : BCx), bodiesJ C fs ds = true → ∀ j f, fs[j]? = some f → partJ (addFs C (fs.take j)) (nthD f 2) = true
  | [], _, _, _, j, f, e => by cases j <;> cases e
  | g :: fs, ds, C, h, j, f, e => by
    have h : (partJ C (nthD g 2) && bodiesJ (addF C g) fs ds) = true := h
    rw [Bool.and_eq_true] at h
    cases j with
    | zero => cases e; exact h.1
    | succ j => exact bodies_fn fs ds (addF C g) h.2 j f e
theorem bodies_dr : ∀ (fs ds : List PyData) (C : BCx), bodiesJ C fs ds = true → ∀ d ∈ ds, partJ (addFs C fs) (nthD d 3) = true
  | [], ds, C, h, d, m => List.all_eq_true.mp h d m
  | g :: fs, ds, C, h, d, m => by
    have h : (partJ C (nthD g 2) && bodiesJ (addF C g) fs ds) = true := h
    rw [Bool.and_eq_true] at h
    exact bodies_dr fs ds (addF C g) h.2 d m
theorem bodies_ok {fs ds : List PyData} {i b : PyData} (af : fs.all funHJ = true) (ad : ds.all doorHJ = true) (h : bodiesJ (ctx0 i b) fs ds = true) : RoOk fs ds := by
  refine ⟨fun j f hf => ?_, fun d hd => ?_⟩
  · have jl := (List.getElem?_eq_some_iff.mp hf).1
    obtain ⟨z, ps, bd, rfl, _⟩ := funHJ_three (List.all_eq_true.mp af f (List.mem_of_getElem? hf))
    obtain ⟨xs, e, g1, g2⟩ := partJ_ok (pars_rk af j (by omega)) (bodies_fn fs ds _ h j _ hf)
    cases (show bd = .tuple xs from e)
    have eb : bodyD (.tuple [.str z, .tuple ps, .tuple xs]) = xs := bodyD_snoc [.str z, .tuple ps] xs
    exact ⟨⟨[.str z, .tuple ps], xs, rfl⟩, by rw [eb]; exact g1, by unfold bodyN; rw [eb]; exact g2⟩
  · obtain ⟨x, y, z, bd, rfl⟩ := doorHJ_four (List.all_eq_true.mp ad d hd)
    have q := pars_rk (i := i) (b := b) af fs.length (Nat.le_refl _)
    rw [List.take_length] at q
    obtain ⟨xs, e, g1, g2⟩ := partJ_ok q (bodies_dr fs ds _ h _ hd)
    cases (show bd = .tuple xs from e)
    have eb : bodyD (.tuple [x, y, z, .tuple xs]) = xs := bodyD_snoc [x, y, z] xs
    exact ⟨⟨[x, y, z], xs, rfl⟩, by rw [eb]; exact g1, by unfold bodyN; rw [eb]; exact g2⟩
end OH
end
section
set_option Elab.async false
set_option linter.all false
set_option maxRecDepth 100000
set_option maxHeartbeats 4000000
/-! The names that a part may run. -/
namespace OH
open PySem PySem.Spec PyProof.Rows L2
/-- a value that is not changed any more from here on -/
def tFrz (td : TE) : TE := fun σ H Q => td σ H fun x H1 => ∃ d u, x = .ref d ∧ H1 d = some u ∧ Mut (some u) ∧ ∀ od, Q x (upd H1 d (.frz od u))
theorem pe_frz {X : Cx} {e : Expr} {td : TE} (he : PE X e td) : PE X e (tFrz td) := by
  refine ⟨fun pins s σ H Q I h => thn (he.run pins s σ H _ I h) fun v s1 ⟨x, H1, I1, r1, d, u, ex, hd, mu, q⟩ => ?_⟩
  obtain ⟨od, I2⟩ := I1.lock hd mu
  exact ⟨x, _, I2, r1, q od⟩
/-- a dict of these names -/
def NmD (H : Hp) (D : Addr) (ks : List Str) : Prop := H D = some (.dK (ks.map fun k => (Sum.inr k, V.bl true)))
/-- one name more, if it isn't there -/
def addK (ks : List Str) (z : Str) : List Str := if z ∈ ks then ks else ks ++ [z]
theorem put_addK (z : Str) (ks : List Str) : putK (ks.map fun k => ((Sum.inr k : Key), V.bl true)) (Sum.inr z) (V.bl true) = (addK ks z).map fun k => ((Sum.inr k : Key), V.bl true) := by
  unfold addK
  by_cases h : z ∈ ks
  · rw [if_pos h]
    unfold putK
    rw [if_pos (by
      rw [List.any_map, List.any_eq_true]
      exact ⟨z, h, by simp⟩)]
    rw [List.map_map]
    refine List.map_congr_left fun k hk => ?_
    show (if _ then _ else _) = _
    split
    · rename_i e
      have e : (Sum.inr k : Key) = Sum.inr z := by simpa using e
      injection e with e
      rw [e]
    · rfl
  · rw [if_neg h]
    exact put_names z ks h
theorem addK_mem {ks : List Str} {z x : Str} : x ∈ addK ks z ↔ x ∈ ks ∨ x = z := by
  unfold addK
  split
  · rename_i h
    exact ⟨.inl, fun q => q.elim id fun e => by rw [e]; exact h⟩
  · rw [List.mem_append, List.mem_singleton]
theorem addK_nodup {ks : List Str} {z : Str} (h : ks.Nodup) : (addK ks z).Nodup := by
  unfold addK
  split
  · exact h
  · rename_i n
    exact List.nodup_append.mpr ⟨h, List.nodup_cons.mpr ⟨List.not_mem_nil, List.nodup_nil⟩, fun x hx y hy e => n (by rw [← List.mem_singleton.mp hy, ← e]; exact hx)⟩
def spRunN (k : Nat) : Sp := fun vs H Q _ => ∃ (Z : Addr → Prop) (v u : V) (z : Str) (i b p : PyData) (fs ds : List PyData), vs = [v, u] ∧ RmAt Z H v z i b fs ds ∧ RoOk fs ds ∧ DA Z H u p ∧ PtOk fs k p ∧
  ∀ D ks H', Same H H' → H D = none → NmD H' D ks → ks.Nodup → (∀ y, y ∈ ks ↔ Reach (fs ++ ds) p y) → ks.length ≤ 6 → Q (.ref D) H'
def spPR : Nat → Sp
  | 0 => fun _ _ _ _ => False
  | k + 1 => fun vs H Q E => ∃ j, j ≤ k ∧ spRunN j vs H Q E
theorem rk_mono {fs : List PyData} {j k : Nat} (h : j ≤ k) {z : Str} (r : Rk fs j z) : Rk fs k z := let ⟨i, f, a, b, c⟩ := r; ⟨i, f, Nat.lt_of_lt_of_le a h, b, c⟩
theorem DA.keptK {Z : Addr → Prop} {H H' : Hp} {D : Addr} {kv : List (Key × V)} {v : V} {d : PyData} (h : DA Z H v d) (c : Kept [D] H H') (hD : H D = some (.dK kv)) : DA Z H' v d :=
  h.ext (fun q xs e => c q _ e fun m => by rw [List.mem_singleton.mp m, hD] at e; cases e) fun q xs _ e => c q _ e fun m => by rw [List.mem_singleton.mp m, hD] at e; cases e
theorem DAs.keptK {Z : Addr → Prop} {H H' : Hp} {D : Addr} {kv : List (Key × V)} {v : List V} {d : List PyData} (h : DAs Z H v d) (c : Kept [D] H H') (hD : H D = some (.dK kv)) : DAs Z H' v d :=
  h.ext (fun q xs e => c q _ e fun m => by rw [List.mem_singleton.mp m, hD] at e; cases e) fun q xs _ e => c q _ e fun m => by rw [List.mem_singleton.mp m, hD] at e; cases e
theorem same_kept {H0 H H' : Hp} {D : Addr} (s : Same H0 H) (c : Kept [D] H H') (n : H0 D = none) : Same H0 H' := fun q o e => c q o (s q o e) fun m => by rw [List.mem_singleton.mp m, n] at e; cases e
theorem rs_snoc {ps xs : List PyData} {x : PyData} {y : Str} : RS ps (xs ++ [x]) y ↔ RS ps xs y ∨ ∃ z', isRun x = some z' ∧ (y = z' ∨ ∃ q, partOf ps (.str z') = some q ∧ Reach ps q y) := by
  constructor
  · rintro ⟨u, m, r⟩
    rcases List.mem_append.mp m with m | m
    · exact .inl ⟨u, m, r⟩
    · rw [List.mem_singleton.mp m] at r
      exact .inr r
  · rintro (⟨u, m, r⟩ | r)
    · exact ⟨u, List.mem_append_left _ m, r⟩
    · exact ⟨x, List.mem_append_right _ (List.mem_singleton.mpr rfl), r⟩
theorem rs_mono {ps xs ys : List PyData} (h : ∀ x ∈ xs, x ∈ ys) {y : Str} (r : RS ps xs y) : RS ps ys y := let ⟨u, m, q⟩ := r; ⟨u, h u m, q⟩
theorem rs_trans {ps xs : List PyData} {z y : Str} (h : RS ps xs z) {q : PyData} (hq : partOf ps (.str z) = some q) (r : Reach ps q y) : RS ps xs y := by
  obtain ⟨u, m, z', e, h⟩ := h
  rcases h with rfl | ⟨q', h1, h2⟩
  · exact ⟨u, m, z, e, .inr ⟨q, hq, r⟩⟩
  · exact ⟨u, m, z', e, .inr ⟨q', h1, h2.trans hq r⟩⟩
theorem DAs.snoc {Z : Addr → Prop} {H : Hp} {b : PyData} : ∀ {xs : List V} (pre : List PyData), DAs Z H xs (pre ++ [b]) → ∃ vpre vb, xs = vpre ++ [vb] ∧ DAs Z H vpre pre ∧ DA Z H vb b
  | _, [], h => by
    obtain ⟨v0, vs0, rfl, g, gs⟩ := h.consE
    cases gs
    exact ⟨[], v0, rfl, .nil, g⟩
  | _, x :: pre, h => by
    obtain ⟨v0, vs0, rfl, g, gs⟩ := h.consE
    obtain ⟨vp, vb, rfl, a1, a2⟩ := DAs.snoc pre gs
    exact ⟨v0 :: vp, vb, rfl, .cons g a1, a2⟩
section
variable {P : Program} {w : World} {K : PySem.W.Frag} {mg : Str → Option Value} {base : Heap}
abbrev nRN : List Str := ["source", "part", "found", "node", "name"]
theorem sc_run_names : FnScope nRN ["source", "part"] (defScope s_run_names) := ⟨rfl, rfl, rfl, by decide +kernel, rfl, by decide +kernel, by decide +kernel⟩
theorem ok_run_step {f : Addr} {fd : FuncData} (k : Nat) (F : Fun K "run_names" "run_names" s_run_names f fd) (DN : DefF P w K mg base CX0 14 "nodes_in" ["body"] (spNodes 12)) (DP : DefF P w K mg base CX0 2 "part_called" ["source", "name"] spPartC)
    (DR : DefF P w K mg base CX0 (k + 14) "run_names" ["source", "part"] (spPR k)) : FnOk P w K mg base CX0 (k + 15) f fd ["source", "part"] (spRunN k) := by
  refine F.ok sc_run_names (fun vs H Q E h => ?_) (fun cdv A outer s H vs Q E hr h => ?_)
  · obtain ⟨Z, v, u, z, i, b, p, fs, ds, rfl, _⟩ := h
    rfl
  · obtain ⟨Z, v, u, z, i, b, p, fs, ds, rfl, hR, ok, hu, hp, kk⟩ := h
    have nd0 := sc_run_names.nd
    have hr14 : Room 14 _ := hr.mono (show 14 ≤ k + 14 by omega)
    have hr2 : Room 2 _ := hr.mono (show 2 ≤ k + 14 by omega)
    have hu1 := Nat.lt_of_le_of_lt (Nat.add_le_add_left (show 1 ≤ 65 by decide) _) (Room_u65 hr)
    refine ⟨_, pss_cons (ps_set (i := 2) nd0 rfl (Or.inl rfl) pe_dnewK)
      (pss_cons (ps_for PassesOwn.never rfl (pi_list (pe_cD DN hr14 rfl pass0 (pa_cons (pe_ix ix_tup (pv 1) (pe_un un_neg pe_int) (fun _ _ => rfl)) pa_nil))) (pg_name (i := 3) nd0 rfl (Or.inl rfl))
        (pss_one (ps_if (PW.pt (pw_and (pt_cmpR op_eq (pe_ix ix_tup (pv 3) pe_int (fun _ _ => rfl)) pe_str (nomark _)) (pw_and1 (pt_cmp (pc_dnotin hu1 (pe_ix ix_tup (pv 3) pe_int (fun _ _ => rfl)) (pv 2))))))
          (pss_cons (ps_asg pe_bl (pg_sub (pv 2) (pe_ix ix_tup (pv 3) pe_int (fun _ _ => rfl)) (set_dict hu1)))
          (pss_one (ps_for PassesOwn.never rfl (pi_keys (pe_frz (pe_cD DR hr rfl pass0 (pa_cons (pv 0) (pa_cons (pe_cD DP hr2 rfl pass0 (pa_cons (pv 0) (pa_cons (pe_ix ix_tup (pv 3) pe_int (fun _ _ => rfl)) pa_nil))) pa_nil))))) (pg_name (i := 4) nd0 rfl (Or.inl rfl))
            (pss_one (ps_asg pe_bl (pg_sub (pv 2) (pv 4) (set_dict hu1)))))))
          pss_nil)))
      (pss_one (ps_ret (pv 2)))), ?_⟩
    obtain ⟨pre, body, rfl⟩ := hp.sh
    have eb : bodyD (.tuple (pre ++ [.tuple body])) = body := bodyD_snoc pre body
    obtain ⟨pa, pxs, rfl, hpa, hps⟩ := hu.tupE
    obtain ⟨vpre, vb, rfl, hpre, hvb⟩ := DAs.snoc pre hps
    obtain ⟨ba, bxs, rfl, hba, hbs⟩ := hvb.tupE
    have sL := sizeLine_eq
    intro D nD
    have s0 := sadd (o := .dK []) (Same.refl H) nD
    have hD0 : NmD (upd H D (.dK [])) D [] := upd_same
    generalize upd H D (.dK []) = H0 at s0 hD0 ⊢
    refine ⟨_, rfl, _, rfl, pa, _, -1, _, rfl, rfl, SqT.of (s0 _ _ hpa), atI_last vpre _, ?_⟩
    have hn := hp.nd
    have hf := hp.fw
    rw [eb] at hn
    have hf' : (nodesIn 12 body).length ≤ 200 := by
      unfold bodyN at hf
      rw [eb] at hf
      exact hf
    refine ⟨Z, Rk fs k, ba, bxs, body, rfl, .inl (s0 _ _ hba), hbs.same s0, hn, by omega, fun l ns H1 s01 nl hl dn => ?_⟩
    refine ⟨l, rfl, ⟨_, SqL.of hl⟩, ?_⟩
    have ln := dn.len
    have un := hR.un
    obtain ⟨nodes, hnodes⟩ : ∃ nodes, nodes = nodesIn 12 body := ⟨_, rfl⟩
    rw [← hnodes] at dn ln hf'
    have hND : bodyN (.tuple (pre ++ [.tuple body])) = nodes := by
      unfold bodyN
      rw [eb, hnodes]
    have sub : ∀ {j : Nat} {y : Str}, RS (fs ++ ds) (nodes.take j) y → y ∈ fs.map nameB := fun {j y} r => by
      refine reach_fn un ok (reach_rs.mpr ?_) hp
      rw [hND]
      exact rs_mono (fun x m => List.mem_of_mem_take m) r
    have few : ∀ {ks : List Str}, ks.Nodup → (∀ y ∈ ks, y ∈ fs.map nameB) → ks.length ≤ 6 := fun {ks} n h => by
      have q := len_sub n h
      rw [List.length_map] at q
      have := hR.lf
      omega
    have hD1 : NmD H1 D [] := s01 _ _ hD0
    have sH1 : Same H H1 := s0.trans s01
    refine for_list (xs := ns) (fun j σ H' => ∃ (o3 o4 : Option V) (ks : List Str), σ = [some v, some (.ref pa), some (.ref D), o3, o4] ∧ Kept [D] H1 H' ∧ NmD H' D ks ∧ ks.Nodup ∧ ∀ y, y ∈ ks ↔ RS (fs ++ ds) (nodes.take j) y) ⟨none, none, [], rfl, Kept.refl, hD1, List.nodup_nil, fun y => ⟨fun m => absurd m List.not_mem_nil, fun ⟨x, m, _⟩ => absurd m List.not_mem_nil⟩⟩
      (fun j σ H' _ ⟨o3, o4, ks, _, c, _⟩ => SqL.of (c l _ hl fun m => by rw [List.mem_singleton.mp m, hD1] at hl; cases hl)) ?turn ?done
    case turn =>
      rintro j u1 σ H2 hj ⟨o3, o4, ks, rfl, c, hD2, nk, iff⟩
      obtain ⟨x, hx, hda⟩ := dn.get hj
      have hx2 := hda.keptK c hD1
      have fx := nodes_form 12 body hn x (by rw [← hnodes]; exact List.mem_of_getElem? hx)
      obtain ⟨w1, r, rfl, fi⟩ := fx.inv
      have et : nodes.take (j + 1) = nodes.take j ++ [.tuple (.str w1 :: r)] := by rw [List.take_add_one, hx]; rfl
      obtain ⟨a1, ys, rfl, ha1, hys⟩ := hx2.tupE
      obtain ⟨v0, vs, rfl, g0, gs⟩ := hys.consE
      obtain rfl : v0 = .str w1 := by cases g0; rfl
      refine ⟨_, rfl, a1, _, 0, _, rfl, rfl, SqT.of ha1, atI_nat (j := 0) rfl, rfl, _, rfl, ?_⟩
      refine ite2 (fun q => ?_) (fun q => ?_)
      rotate_left
      · have nw : ¬ w1 = "run" := by simpa using q
        refine iteF ⟨_, _, ks, rfl, c, hD2, nk, fun y => ?_⟩
        rw [et, rs_snoc, iff y]
        exact ⟨.inl, fun h => h.elim id fun ⟨z', e, _⟩ => by
          obtain ⟨es, e2⟩ := isRun_eq e
          injection e2 with e2
          injection e2 with e3
          injection e3 with e3
          exact absurd e3 nw⟩
      have ew : w1 = "run" := by simpa using q
      subst ew
      obtain ⟨z1, es, rfl, _, hz⟩ := fi.run rfl
      obtain ⟨u1, u2, rfl, g1, g2⟩ := gs.two
      obtain rfl : u1 = .str z1 := by cases g1; rfl
      refine ⟨_, rfl, a1, _, 1, _, rfl, rfl, SqT.of ha1, atI_nat (j := 1) rfl, _, rfl, D, _, rfl, DGet.k (k := Sum.inr z1) hD2, _, rfl, ?_⟩
      rw [val_names]
      have er := isRun_run z1 es
      obtain ⟨j0, f0, lj, hf0, en⟩ := hz
      have hq0 : partOf (fs ++ ds) (.str z1) = some f0 := by
        rw [← en]
        exact partOf_mem un (List.mem_append_left ds (List.mem_of_getElem? hf0))
      by_cases hz2 : z1 ∈ ks
      · rw [decide_eq_true hz2]
        refine iteF ⟨_, _, ks, rfl, c, hD2, nk, fun y => ?_⟩
        rw [et, rs_snoc, iff y]
        refine ⟨.inl, fun h => h.elim id fun ⟨z', e, h⟩ => ?_⟩
        rw [er] at e
        cases e
        have r1 := (iff z1).mp hz2
        rcases h with rfl | ⟨q, h1, h2⟩
        · exact r1
        · exact rs_trans r1 h1 h2
      rw [decide_eq_false hz2]
      refine iteT ?_
      have k6 : ks.length ≤ 6 := few nk fun y m => sub ((iff y).mp m)
      refine ⟨_, rfl, _, rfl, a1, _, 1, _, rfl, rfl, SqT.of ha1, atI_nat (j := 1) rfl, D, _, rfl, DPut.k (k := Sum.inr z1) hD2 (by rw [List.length_map]; omega), ?_⟩
      rw [put_addK]
      have c3 : Kept [D] H1 (upd H2 D (.dK ((addK ks z1).map fun k => (Sum.inr k, V.bl true)))) := c.upd (List.mem_singleton.mpr rfl)
      have hD3 : NmD (upd H2 D (.dK ((addK ks z1).map fun k => (Sum.inr k, V.bl true)))) D (addK ks z1) := upd_same
      have ha13 : upd H2 D (.dK ((addK ks z1).map fun k => (Sum.inr k, V.bl true))) a1 = some (.tup [.str "run", .str z1, u2]) := (upd_ne (ne_of ha1 hD2 (fun z => nomatch z))).trans ha1
      generalize upd H2 D (.dK ((addK ks z1).map fun k => (Sum.inr k, V.bl true))) = H3 at c3 hD3 ha13 ⊢
      have s3 : Same H H3 := same_kept sH1 c3 nD
      obtain ⟨k', rfl⟩ : ∃ k', k = k' + 1 := ⟨k - 1, by omega⟩
      refine ⟨_, rfl, _, rfl, _, rfl, a1, _, 1, _, rfl, rfl, SqT.of ha13, atI_nat (j := 1) rfl, ?_⟩
      refine ⟨Z, v, .str z1, z, i, b, .str z1, fs, ds, rfl, hR.same s3, (by cases g1 with | str _ h => exact .str z1 h), (fun e => by rw [hq0] at e; cases e), fun p1 x1 H4 s34 e1 hx4 => ?_⟩
      rw [hq0] at e1
      injection e1 with e1
      subst e1
      refine ⟨j0, by omega, Z, v, x1, z, i, b, f0, fs, ds, rfl, hR.same (s3.trans s34), ok, hx4, ok.fn j0 f0 hf0, fun D2 ks2 H5 s45 n2 hD5 nk2 iff2 l2 => ?_⟩
      refine ⟨D2, _, rfl, hD5, trivial, fun od => ⟨D2, od, rfl, .inl ⟨_, upd_same, ?_⟩⟩⟩
      have s46 := Same.updL (o := .frz od (.dK (ks2.map fun k => (Sum.inr k, V.bl true)))) s45 n2
      have hD6 : NmD (upd H5 D2 (.frz od (.dK (ks2.map fun k => (Sum.inr k, V.bl true))))) D (addK ks z1) := s46 _ _ (s34 _ _ hD3)
      have c6 : Kept [D] H1 (upd H5 D2 (.frz od (.dK (ks2.map fun k => (Sum.inr k, V.bl true))))) := (c3.same s34).same s46
      have hf6 : upd H5 D2 (.frz od (.dK (ks2.map fun k => (Sum.inr k, V.bl true)))) D2 = some (.frz od (.dK (ks2.map fun k => (Sum.inr k, V.bl true)))) := upd_same
      generalize upd H5 D2 (.frz od (.dK (ks2.map fun k => (Sum.inr k, V.bl true)))) = H6 at s46 hD6 c6 hf6 ⊢
      have ne2 : D2 ≠ D := ne_of hf6 hD6 (fun z => nomatch z)
      have hall : ∀ y, (y ∈ addK ks z1 ∨ y ∈ ks2) ↔ RS (fs ++ ds) (nodes.take (j + 1)) y := fun y => by
        rw [et, rs_snoc, addK_mem, iff y, iff2 y]
        constructor
        · rintro ((h | rfl) | h)
          · exact .inl h
          · exact .inr ⟨_, er, .inl rfl⟩
          · exact .inr ⟨z1, er, .inr ⟨f0, hq0, h⟩⟩
        · rintro (h | ⟨z', e, h⟩)
          · exact .inl (.inl h)
          · rw [er] at e
            injection e with e
            subst e
            rcases h with h | ⟨q, h1, h2⟩
            · exact .inl (.inr h)
            · rw [hq0] at h1
              injection h1 with h1
              subst h1
              exact .inr h2
      refine for_it (walk_keys (d := D2) (o := od) (kvs := ks2.map fun k => (Sum.inr k, V.bl true))) (fun i σ H' => ∃ (o4 : Option V) (ks' : List Str), σ = [some v, some (.ref pa), some (.ref D), some (.ref a1), o4] ∧ Kept [D] H1 H' ∧ H' D2 = some (.frz od (.dK (ks2.map fun k => (Sum.inr k, V.bl true)))) ∧ NmD H' D ks' ∧ ks'.Nodup ∧ ∀ y, y ∈ ks' ↔ (y ∈ addK ks z1 ∨ y ∈ ks2.take i))
        ⟨o4, addK ks z1, rfl, c6, hf6, hD6, addK_nodup nk, fun y => ⟨.inl, fun h => h.elim id fun m => absurd m List.not_mem_nil⟩⟩ (fun i σ H' _ ⟨o4, ks', _, _, h, _⟩ => h) ?turn2 ?done2
      case turn2 =>
        rintro i y σ H7 H8 hi ⟨o4, ks', rfl, c7, hf7, hD7, nk7, iff7⟩ ⟨rfl, k1, v1, hk, rfl⟩
        rw [List.getElem?_map] at hk
        obtain ⟨y, hy, e⟩ := Option.map_eq_some_iff.mp hk
        cases e
        have k7 : ks'.length ≤ 6 := few nk7 fun x m => sub ((hall x).mp (((iff7 x).mp m).imp id fun m => List.mem_of_mem_take m))
        refine ⟨_, rfl, _, rfl, D, _, rfl, DPut.k (k := Sum.inr y) hD7 (by rw [List.length_map]; omega), ?_⟩
        rw [put_addK]
        refine ⟨_, addK ks' y, rfl, c7.upd (List.mem_singleton.mpr rfl), (upd_ne ne2).trans hf7, upd_same, addK_nodup nk7, fun x => ?_⟩
        rw [addK_mem, iff7 x, List.take_add_one, hy]
        show _ ↔ (_ ∨ x ∈ ks2.take i ++ [y])
        rw [List.mem_append, List.mem_singleton, or_assoc]
      case done2 =>
        rintro σ H7 ⟨o4, ks', rfl, c7, hf7, hD7, nk7, iff7⟩
        rw [List.length_map, List.take_length] at iff7
        exact ⟨_, _, ks', rfl, c7, hD7, nk7, fun y => by rw [iff7 y, hall y]⟩
    case done =>
      rintro σ H2 ⟨o3, o4, ks, rfl, c, hD2, nk, iff⟩
      rw [ln, List.take_length] at iff
      refine ⟨_, rfl, kk D ks H2 (same_kept sH1 c nD) nD hD2 nk (fun y => ?_) (few nk fun y m => sub (j := nodes.length) (by rw [List.take_length]; exact (iff y).mp m))⟩
      rw [iff y, reach_rs, hND]
theorem FnOk.someJ {f : Addr} {fd : FuncData} {ps : List Str} {lv k : Nat} {sp : Nat → Sp} (h : ∀ j, j ≤ k → FnOk P w K mg base CX0 lv f fd ps (sp j)) : FnOk P w K mg base CX0 lv f fd ps (fun vs H Q E => ∃ j, j ≤ k ∧ sp j vs H Q E) :=
  ⟨fun vs H Q E ⟨j, hj, q⟩ => (h j hj).len vs H Q E q, fun A outer s H args us vs Q E hr he hb hv ⟨j, hj, q⟩ => (h j hj).run A outer s H args us vs Q E hr he hb hv q⟩
theorem ok_run_names {f : Addr} {fd : FuncData} (F : Fun K "run_names" "run_names" s_run_names f fd) (m : mg "run_names" = some (.ref f)) (kk : PySem.W.keepIn K (.ref f) = true) (b : Binds K fd ["source", "part"] []) (DN : DefF P w K mg base CX0 14 "nodes_in" ["body"] (spNodes 12)) (DP : DefF P w K mg base CX0 2 "part_called" ["source", "name"] spPartC) :
    ∀ k : Nat, ∀ j, j ≤ k → FnOk P w K mg base CX0 (k + 15) f fd ["source", "part"] (spRunN j)
  | 0, j, h => by
    obtain rfl : j = 0 := Nat.le_zero.mp h
    have v0 : FnOk P w K mg base CX0 14 f fd ["source", "part"] (spPR 0) := F.ok sc_run_names (fun vs H Q E h => h.elim) (fun cdv A outer s H vs Q E hr h => h.elim)
    exact ok_run_step 0 F DN DP ⟨f, fd, v0, m, kk, b⟩
  | k + 1, j, h => by
    have ih := ok_run_names F m kk b DN DP k
    have pr : FnOk P w K mg base CX0 (k + 15) f fd ["source", "part"] (spPR (k + 1)) := FnOk.someJ ih
    rcases Nat.lt_or_ge j (k + 1) with l | l
    · exact (ih j (by omega)).mono (by omega)
    · obtain rfl : j = k + 1 := by omega
      exact ok_run_step (k + 1) F DN DP ⟨f, fd, pr, m, kk, b⟩
end
end OH
end
section
set_option Elab.async false
set_option linter.all false
set_option maxRecDepth 100000
set_option maxHeartbeats 4000000
/-! {x!r}, whatever is being shown just now. -/
namespace OH
open PySem PySem.Spec PyProof.Rows L2
theorem wpAny_anyG {α : Type} {M : Model} {A : Around} {t : Sem α} {Q : α → Shared → Prop} {E : Value → Shared → Prop} {s : Shared} (h : ∀ g, wpAny M { A with guards := some g } t Q E s) : wpAny M A t Q E s :=
  fun Γ p hΓ => h _ Γ p ⟨hΓ.1, hΓ.2.1, hΓ.2.2.1, fun g e => by cases e; rfl, hΓ.2.2.2.2⟩
section
variable {prog : Program} {w : World} {A : Around} {E : Value → Shared → Prop} {s : Shared} {a : Addr} {o : Obj} {items : Array Value} {n : Nat} {ts : List Str} {g : List Code}
/-- a tuple that may be being shown already -/
theorem shown_tuple {Q : Value → Shared → Prop} (hTy : s.TypeIs (.ref a) "tuple") (hg : A.guards = some g) (hu : A.units < cLine) (ha : s.heap.get? a = some o) (hd : o.data = .seq items n) (hT : ReprAll prog w items.toList ts)
    (hQ : ∀ t u tk, t.length ≤ (tupleText ts).length + 5 → Q (.str t u) { s with toks := tk }) (hsz : (tupleText ts).length ≤ sizeLine) : wpAny (model prog w) A (pyReprObj (.ref a)) Q E s := by
  by_cases hno : ∀ c ∈ g, tupGuardF (.ref a) (c, default) = false
  · exact wpAny_pyReprObj_tuple hTy hg hno hu ha hd hT (fun u tk => hQ _ u tk (Nat.le_add_right _ _)) hsz
  · have yes : (g.any fun c => tupGuardF (.ref a) (c, default)) = true := by
      rcases Bool.eq_false_or_eq_true (g.any fun c => tupGuardF (.ref a) (c, default)) with h | h
      · exact h
      · refine absurd (fun c hc => ?_) hno
        rw [List.any_eq_false] at h
        exact Bool.eq_false_iff.mpr (h c hc)
    unfold pyReprObj
    refine wpAny_bind (wpAny_cRoomFor hu ?_)
    refine wpAny_bind (wpAny_specialOf (name := Str.ofString "__repr__") hTy F.slot_tuple_repr.lookup ?_)
    refine wpAny_bind (m := callSpecialIfBound? (.ref a) (Str.ofString "__repr__")) (wpAny_callSpecialIfBound?_slotG (name := Str.ofString "__repr__") hTy F.slot_tuple_repr ?_)
    refine wpAny_call (codeAny_call_builtin_own (Code.quiet_builtin _ (by decide +kernel)) F.entry_tuple_repr (F.slot_tuple_repr.check _ _ _ _ _ _ _ _ hTy (F.args_tuple_repr_1 _) ?_))
    show wpOwn (model prog w) A _ (Builtin.tupleReprAt 0 ⟨[.ref a], []⟩) _ _ _
    rw [tuple_repr_tree, tupleReprUnderWay_eq]
    refine wpOwn_bind (wpOwn_stackTailAny hg (tupGuardF_off _) (tupGuardF_pos _) ?_)
    rw [yes]
    refine wpOwn_of_wpAny ?_
    show wpAny _ _ (do rule "tuple.repr.in-itself"; retStr "(...)") _ _ s
    refine wpAny_bind (wpAny_rule ?_)
    unfold retStr
    refine wpAny_bind (wpAny_mkStr ?_)
    refine wpAny_pure ?_
    exact wpAny_bind (wpAny_isInstance (T := "str") (b := true) rfl isSubtype_str_str (wpAny_pure (hQ _ _ _ (by show 5 ≤ _; omega))))
/-- a list that may be being shown already -/
theorem list_head_any {M : Model} {Q : Fin → Shared → Prop} {x : Value} {l : List Value} {b : Nat} (ha : s.heap.get? a = some o) (hd : o.data = .seq (x :: l).toArray n)
    (h : wpAny M A (do again (.builtin "list.__repr__.loop" ⟨[.ref a, rawInt 0, ← newList [], rawInt b], []⟩)) Q E s) (h2 : wpAny M A (do rule "list.__repr__.in-itself"; retStr "[...]") Q E s) : wpAny M A (Builtin.listReprAt b ⟨[.ref a], []⟩) Q E s := by
  intro Γ p hΓ
  have h1 := h Γ p hΓ
  have h3 := h2 Γ p hΓ
  unfold Builtin.listReprAt
  simp [slotArgs, Builtin.List.listItems, seqItems?, Sem.wp_load_of (h := ha), hd, stack]
  show Sem.wp M Γ (if (Γ.below.any _) = true then _ else _) _ _ p s
  split
  · exact h3
  · exact h1
theorem shown_list {Q : Value → Shared → Prop} {x : Value} {l : List Value} (hTy : s.TypeIs (.ref a) "list") (hu : A.units < cLine) (ha : s.heap.get? a = some o) (hd : o.data = .seq (x :: l).toArray n) (hlen : ts.length = (x :: l).toArray.size)
    (hT : ∀ (i : Nat) (y : Value), (x :: l).toArray[i]? = some y → ∃ t, ts[i]? = some t ∧ ReprIs prog w y t)
    (hQ : ∀ h' t u tk, t.length ≤ (listText ts).length + 5 → (∀ b o, s.heap.get? b = some o → h'.get? b = some o) → Q (.str t u) { s with heap := h', toks := tk }) (hsz : (listText ts).length ≤ sizeLine) : wpAny (model prog w) A (pyReprObj (.ref a)) Q E s := by
  unfold pyReprObj
  refine wpAny_bind (wpAny_cRoomFor hu ?_)
  refine wpAny_bind (wpAny_specialOf (name := Str.ofString "__repr__") hTy F.slot_list_repr.lookup ?_)
  refine wpAny_bind (m := callSpecialIfBound? (.ref a) (Str.ofString "__repr__")) (wpAny_callSpecialIfBound?_slot (name := Str.ofString "__repr__") hTy F.slot_list_repr ?_)
  refine wpAny_call (codeAny_call_builtin F.slot_list_repr.plain F.entry_list_repr (F.slot_list_repr.check _ _ _ _ _ _ _ _ hTy (F.args_list_repr_1 _) ?_))
  refine list_head_any ha hd ?_ ?_
  · refine wpAny_bind (m := newList []) (wpAny_newObj_type ?_)
    refine wpAny_pure ⟨F.quiet_list_repr_loop _, ?_⟩
    refine codeAny_list_repr_start (b := 0) (P := s.heap.objs.size) (Nat.ne_of_lt (Heap.lt_size ha)) hlen hT (Heap.get?_push_of_some _ ha) hd (Heap.get?_push_size _ rfl) (fun h' u tk hk => ?_) (by omega)
    exact wpAny_bind (wpAny_isInstance (T := "str") (b := true) rfl isSubtype_str_str (wpAny_pure (hQ h' _ u tk (Nat.le_add_right _ _) fun b o e => hk b o (Nat.ne_of_lt (Heap.lt_size e)) (Heap.get?_push_of_some _ e))))
  · refine wpAny_bind (wpAny_rule ?_)
    unfold retStr
    refine wpAny_bind (wpAny_mkStr ?_)
    refine wpAny_pure ?_
    exact wpAny_bind (wpAny_isInstance (T := "str") (b := true) rfl isSubtype_str_str (wpAny_pure (hQ s.heap _ _ _ (by show 5 ≤ _; omega) fun b o e => e)))
end
/-- a value that can be shown in few signs: a plain one, or a tuple or a list of few short strings -/
inductive ShR (H : Hp) : V → Prop
  | non : ShR H .non
  | bl (b : Bool) : ShR H (.bl b)
  | int (i : Int) (h : 0 ≤ i) (h1 : i < 100000) : ShR H (.int i)
  | str (y : Str) (h : (reprText y).length ≤ 20000) : ShR H (.str y)
  | tup {a : Addr} {l : List Str} (e : H a = some (.tup (l.map V.str))) (h : ∀ y ∈ l, (reprText y).length ≤ 1000) (h4 : l.length ≤ 4) : ShR H (.ref a)
  | lst {a : Addr} {y : Str} {l : List Str} (e : H a = some (.lst ((y :: l).map V.str))) (h : ∀ z ∈ y :: l, (reprText z).length ≤ 1000) (h4 : l.length ≤ 3) : ShR H (.ref a)
def tFmtX (te : TE) : TE := fun σ H Q => te σ H fun x H1 => ShR H1 x ∧ ∀ m : Str, m.length ≤ 30000 → Q (.str m) H1
theorem piled_le : ∀ ts : List Str, (∀ t ∈ ts, t.length ≤ 1000) → piled ts ≤ ts.length * 1002
  | [], _ => by show 0 ≤ _; omega
  | t :: ts, h => by
    have ih := piled_le ts fun x m => h x (List.mem_cons_of_mem _ m)
    have h1 := h t List.mem_cons_self
    rw [piled_cons, List.length_cons]
    omega
theorem reprAll_get {prog : Program} {w : World} : ∀ {l : List Value} {ts : List Str}, ReprAll prog w l ts → ∀ {i : Nat} {z : Value}, l[i]? = some z → ∃ t, ts[i]? = some t ∧ ReprIs prog w z t
  | _, _, .nil, i, z, e => by cases i <;> cases e
  | _, _, .cons h hs, 0, z, e => by cases e; exact ⟨_, rfl, h⟩
  | _, _, .cons h hs, i + 1, z, e => reprAll_get hs e
theorem textFrom_le : ∀ (ts : List Str) (k : Nat) (acc : Str), (textFrom k acc ts).length ≤ acc.length + piled ts
  | [], _, _ => Nat.le_add_right _ _
  | t :: ts, k, acc => by
    have ih := textFrom_le ts (k + 1) (acc ++ (if k > 0 then ", " else "" : String) ++ t)
    rw [piled_cons]
    have e : ((if k > 0 then ", " else "" : String) : Str).length ≤ 2 := by split <;> decide +kernel
    rw [strLen_append, strLen_append] at ih
    show (textFrom (k + 1) (acc ++ (if k > 0 then ", " else "" : String) ++ t) ts).length ≤ _
    omega
theorem listText_le (ts : List Str) : (listText ts).length ≤ piled ts + 2 := by
  have h := textFrom_le ts 0 "["
  unfold listText
  rw [strLen_append]
  have e1 : ((("[" : String) : Str)).length = 1 := rfl
  have e2 : ((("]" : String) : Str)).length = 1 := rfl
  rw [e1] at h
  rw [e2]
  omega
theorem pe_fmtX {X : Cx} {e : Expr} {te : TE} {pos : Pos} (hu : X.A.units < cLine) (he : PE X e te) : PE X (.FormattedValue e 114 none pos) (tFmtX te) := by
  refine ⟨fun pins s σ H Q I h => ?_⟩
  refine wpAny_FormattedValue_repr (thn (he.run pins s σ H _ I h) fun v s1 hv => ?_)
  obtain ⟨x, H1, I1, r1, sh, q⟩ := hv
  have sL := sizeLine_eq
  have out : ∀ {A : Around} {m : Str} {u : Tok} {tk : Nat} {h' : Heap}, m.length ≤ 30000 → (∀ b o, s1.heap.get? b = some o → h'.get? b = some o) → wpAny (model X.prog X.w) A (formatField (.str m u) Str.empty) (EP X pins σ Q) X.xe { s1 with heap := h', toks := tk } := fun {A m u tk h'} hm hk =>
    wpAny_formatField_str ⟨.str m, H1, I1.kept (t' := tk) hk, ⟨u, rfl⟩, q m hm⟩ ⟨.str m, H1, (I1.kept (t' := tk) hk).tok _, ⟨_, rfl⟩, q m hm⟩ (by omega)
  cases sh with
  | non =>
    cases r1
    exact pyReprObj_none (out (by decide +kernel) fun _ _ e => e)
  | bl b =>
    cases r1
    exact pyReprObj_bool (out (by cases b <;> decide +kernel) fun _ _ e => e)
  | int i h0 h1 =>
    obtain ⟨t, rfl⟩ := r1
    have hs : i.natAbs.log2 < 1920 := by
      by_cases e : i.natAbs = 0
      · rw [e]; decide
      · rw [Nat.log2_lt e]
        exact Nat.lt_of_lt_of_le (show i.natAbs < 2 ^ 17 by omega) (Nat.pow_le_pow_right (by decide) (by decide))
    have hl : (toString i : Str).length ≤ 5 := PyProof.Rows.toString_length_le h0 (by decide) (by omega)
    exact pyReprObj_int hs (out (by omega) fun _ _ e => e)
  | str y hy =>
    obtain ⟨t, rfl⟩ := r1
    exact pyReprObj_str (out (by omega) fun _ _ e => e) (by omega)
  | @tup a l e hl h4 =>
    cases (show v = Value.ref a from r1)
    obtain ⟨its, rv, ⟨o, ho, hcl, n, hd⟩, _⟩ := I1.tuple (SqT.of e)
    have hp := fmt_text (l.map reprText)
    have hq := piled_le (l.map reprText) fun t m => by
      obtain ⟨y, hy, rfl⟩ := List.mem_map.mp m
      exact hl y hy
    rw [List.length_map] at hq
    refine wpAny_anyG fun g => shown_tuple (g := g) (ts := l.map reprText) ⟨o, ho, hcl⟩ rfl hu ho hd (by rw [List.toList_toArray]; exact repr_all rv fun y hy => by have := hl y hy; omega) (fun t u tk ht => ?_) (by omega)
    exact out (by omega) fun _ _ e => e
  | @lst a y l e hl h4 =>
    cases (show v = Value.ref a from r1)
    obtain ⟨its, rv, ⟨o, n, ho, hcl, _, hd⟩, _⟩ := I1.list (SqL.of e)
    have hq := piled_le ((y :: l).map reprText) fun t m => by
      obtain ⟨y, hy, rfl⟩ := List.mem_map.mp m
      exact hl y hy
    have ht := listText_le ((y :: l).map reprText)
    rw [List.length_map, List.length_cons] at hq
    obtain ⟨u, us, rfl⟩ : ∃ u us, its = u :: us := by
      cases its with
      | nil => cases rv
      | cons u us => exact ⟨u, us, rfl⟩
    have ra := repr_all (prog := X.prog) (w := X.w) rv fun z hz => by have := hl z hz; omega
    refine shown_list (ts := (y :: l).map reprText) ⟨o, ho, hcl⟩ hu ho hd (by rw [List.size_toArray, ← rv.length, List.length_map, List.length_map]) (fun i z hz => reprAll_get ra (by simpa using hz)) (fun h' t u tk hm hk => out (by omega) hk) (by omega)
end OH
end
section
set_option Elab.async false
set_option linter.all false
set_option maxRecDepth 100000
set_option maxHeartbeats 4000000
/-! No such part. -/
namespace OH
open PySem PySem.Spec PyProof.Rows L2
/-- what __init__(self, v) does that shows v -/
def spErrR (C : Addr) (f : Str) : Sp := fun vs H Q _ => ∃ (a : Addr) (v : V), vs = [.ref a, v] ∧ ShR H v ∧ H a = some (exo a C none) ∧
  ∀ dx, H dx = none → dx ≠ a → Q .non (upd (upd H dx (exd dx [(f, v)])) a (exo a C (some dx)))
theorem ShR.updN {H : Hp} {v : V} (h : ShR H v) {a : Addr} {o : HO} (n : H a = none) : ShR (upd H a o) v := by
  cases h with
  | non => exact .non
  | bl b => exact .bl b
  | int i a b => exact .int i a b
  | str y h => exact .str y h
  | tup e h h4 => exact .tup ((upd_ne (ne_of_none e n)).trans e) h h4
  | lst e h h4 => exact .lst ((upd_ne (ne_of_none e n)).trans e) h h4
theorem ShR.same {H H' : Hp} {v : V} (h : ShR H v) (s : Same H H') : ShR H' v := by
  cases h with
  | non => exact .non
  | bl b => exact .bl b
  | int i a b => exact .int i a b
  | str y h => exact .str y h
  | tup e h h4 => exact .tup (s _ _ e) h h4
  | lst e h h4 => exact .lst (s _ _ e) h h4
section
variable {P : Program} {w : World} {K : PySem.W.Frag} {mg : Str → Option Value} {base : Heap}
theorem scNoPart : ScopeS ["self", "part"] ["self", "part"] (defScope s_NoPart___init__) := ⟨rfl, rfl, rfl, by decide +kernel, rfl, by decide +kernel, by decide +kernel, by decide +kernel, rfl, rfl⟩
theorem ok_NoPart_init {f C cc : Addr} {fd : FuncData} (F : FunS P K "__init__" "NoPart.__init__" s_NoPart___init__ f fd C cc) (T : ErrF P K mg "NoPart" "part" C) : FnOk P w K mg base CX0 1 f fd ["self", "part"] (spErrR C "part") := by
  refine F.ok (k := 0) (pl := fun _ => pure false) T.s scNoPart rfl rfl rfl (fun vs H Q E h => ?_) (fun _ => rfl) (fun _ => rfl) (fun _ _ => rfl) (fun _ _ => rfl) (fun cdv A outer s H vs Q E hr h => ?_)
  · obtain ⟨a, v, rfl, _⟩ := h
    rfl
  · obtain ⟨a, v, rfl, fm, ha, k⟩ := h
    have hu0 := Nat.lt_of_le_of_lt (Nat.le_add_right _ _) (Room_u65 hr)
    refine ⟨a, _, _, rfl, ha, pa_cons (pe_joined (PJ.cons pe_str (PJ.cons (pe_fmtX hu0 (pv 1)) PJ.nil))) pa_nil, pss_one (ps_ost (pv 0) (pv 1)), ?_⟩
    have l1 : ("no part of the room is called " : Str).length = 30 := by decide +kernel
    refine ⟨_, rfl, ?_, _, rfl, fm, fun m hm => ⟨_, rfl, ?_, (by show 1 ≤ 1000; decide), ha, _, rfl, _, rfl, a, C, rfl, T.s.toOexC, T.no, .inl ⟨ha, fun dx n1 n2 => k dx n1 n2⟩⟩⟩
    · rw [Str.length_append, l1, sizeLine_eq]
      show 0 + 30 ≤ _
      omega
    · rw [Str.length_append, Str.length_append, l1, sizeLine_eq]
      show 0 + 30 + _ ≤ _
      omega
end
section
variable {X : Cx} {C fI : Addr} {x f : Str} {e : Expr} {ta : TA} {p pos : Pos} {fd : FuncData}
def tMkR (C : Addr) (f : Str) (ta : TA) : L2.St → Hp → XK → Prop := fun σ H Q => ta σ H fun vs H1 => ∃ v, vs = [v] ∧ ShR H1 v ∧ ∀ d, H1 d = none → Q (.ref C) (some d) (upd H1 d (.xd [(f, v)]))
theorem pmk_errR (T : ErrF X.prog X.K X.mg x f C) (iC : PySem.W.findIn X.K (.ref C) "__init__" = some (some (.ref fI))) (tI : PySem.W.typeIn X.K (.ref fI) = some (.type "function"))
    (F1 : FnOk X.prog X.w X.K X.mg X.base CX0 1 fI fd ["self", f] (spErrR C f)) (hr : Room 2 X.A) (hb : Binds X.K fd ["self", f] []) (hg : Gl X x) (ha : PA X [e] ta)
    (hdb : (x == ("__debug__" : Str)) = false := by decide) (he : starEach [e] X.env = (false, eval e X.env) :: starEach [] X.env := by rfl) (hpl : (backTo pos (starEach [] X.env)).any (·.1) = false := by rfl) :
    PMk X (.Call (.Name x p) [e] [] pos) (tMkR C f ta) := by
  intro pins s σ H Q I h
  refine pmk_oex (pos := pos) T.s.toOexC iC tI F1 hr hb .nil pass0 hg T.g (pa_up ha) hdb he hpl pins s σ H Q I ⟨_, h, fun vs H1 hv => ?_⟩
  obtain ⟨v, rfl, fm, q⟩ := hv
  refine ⟨by show 1 ≤ 1000; omega, fun a na => ⟨a, v, rfl, fm.updN na, upd_same, fun dx n1 n2 => ⟨rfl, dx, [(f, v)], upd_same, (upd_ne n2).trans upd_same, ?_, ?_⟩⟩⟩
  · rw [upd_ne n2] at n1
    exact n1
  · have n0 : H1 dx = none := by
      rw [upd_ne n2] at n1
      exact n1
    have eh : upd (L2.del (upd (upd (upd H1 a (exo a C none)) dx (exd dx [(f, v)])) a (exo a C (some dx))) a) dx (.xd [(f, v)]) = upd H1 dx (.xd [(f, v)]) := by
      funext b
      by_cases h1 : b = dx
      · rw [h1, upd_same, upd_same]
      · rw [upd_ne h1, upd_ne h1]
        by_cases h2 : b = a
        · rw [h2, L2.del_same, na]
        · rw [L2.del_ne h2, upd_ne h2, upd_ne h1, upd_ne h2]
    have eh' : _ = _ := eh
    rw [eh']
    exact q dx n0
end
end OH
end
section
set_option Elab.async false
set_option linter.all false
set_option maxRecDepth 100000
set_option maxHeartbeats 4000000
/-! What a part may run. -/
namespace OH
open PySem PySem.Spec PyProof.Rows L2
def partsD (d : PyData) : List PyData := itemsD (nthD d 3) ++ itemsD (nthD d 4)
def spNeedPart (CN : Addr) : Sp := fun vs H Q E => ∃ (Z : Addr → Prop) (v u : V) (z : Str) (i b y : PyData) (fs ds : List PyData), vs = [v, u] ∧ RmAt Z H v z i b fs ds ∧ DA Z H u y ∧
  (partOf (fs ++ ds) y = none → ShR H u ∧ ∀ dd H', Same H H' → H dd = none → H' dd = some (.xd [("part", u)]) → E (.ref CN) (some dd) H') ∧ ∀ p x H', Same H H' → partOf (fs ++ ds) y = some p → DA Z H' x p → Q x H'
def spRunsOf (CR CN : Addr) : Sp := fun vs H Q E => ∃ (Z : Addr → Prop) (v u : V) (d y : PyData), vs = [v, u] ∧ DA Z H v d ∧ DA Z H u y ∧ (roomJ d = false → ∀ H', Same H H' → E (.ref CR) none H') ∧
  (roomJ d = true → partOf (partsD d) y = none → ShR H u ∧ ∀ dd H', Same H H' → H dd = none → H' dd = some (.xd [("part", u)]) → E (.ref CN) (some dd) H') ∧
  (roomJ d = true → ∀ p, partOf (partsD d) y = some p → ∀ ks l H', Same H H' → H' l = some (.tup (ks.map V.str)) → sortedS ks = true → ks.Nodup → (∀ z, z ∈ ks ↔ Reach (partsD d) p z) → Q (.ref l) H')
theorem partOf_in {ps : List PyData} {y p : PyData} (e : partOf ps y = some p) : p ∈ ps := by
  cases y with
  | str n => exact List.mem_of_find?_eq_some (show ps.find? (fun p => decide (nameB p = n)) = some p from e)
  | _ => cases e
theorem part_pt {fs ds : List PyData} (ok : RoOk fs ds) (lf : fs.length ≤ 6) {p : PyData} (m : p ∈ fs ++ ds) : ∃ j, j ≤ 6 ∧ PtOk fs j p := by
  rcases List.mem_append.mp m with m | m
  · obtain ⟨j, hj⟩ := List.mem_iff_getElem?.mp m
    have := (List.getElem?_eq_some_iff.mp hj).1
    exact ⟨j, by omega, ok.fn j p hj⟩
  · exact ⟨fs.length, lf, ok.dr p m⟩
section
variable {P : Program} {w : World} {K : PySem.W.Frag} {mg : Str → Option Value} {base : Heap} {CR CN : Addr}
theorem sc_need_part : FnScope ["source", "name", "part"] ["source", "name"] (defScope s_need_part) := ⟨rfl, rfl, rfl, by decide +kernel, rfl, by decide +kernel, by decide +kernel⟩
theorem ok_need_part {f fI : Addr} {fd fdI : FuncData} (F : Fun K "need_part" "need_part" s_need_part f fd) (TE : ErrF P K mg "NoPart" "part" CN) (iC : PySem.W.findIn K (.ref CN) "__init__" = some (some (.ref fI))) (tI : PySem.W.typeIn K (.ref fI) = some (.type "function"))
    (FI : FnOk P w K mg base CX0 1 fI fdI ["self", "part"] (spErrR CN "part")) (bI : Binds K fdI ["self", "part"] []) (DP : DefF P w K mg base CX0 2 "part_called" ["source", "name"] spPartC) : FnOk P w K mg base (L2.CX P w) 3 f fd ["source", "name"] (spNeedPart CN) := by
  refine F.okX sc_need_part (fun vs H Q E h => ?_) (fun cdv A outer s H vs Q E hr h => ?_)
  · obtain ⟨Z, v, u, z, i, b, y, fs, ds, rfl, _⟩ := h
    rfl
  · obtain ⟨Z, v, u, z, i, b, y, fs, ds, rfl, hR, hu, k1, k2⟩ := h
    have nd0 := sc_need_part.nd
    refine ⟨_, pss_cons (ps_set (i := 2) nd0 rfl (Or.inl rfl) (pe_cD DP hr rfl pass0 (pa_cons (pv 0) (pa_cons (pv 1) pa_nil))))
      (pss_cons (ps_if (pt_cmpR op_isN (pv 2) pe_non (nomark _)) (pss_one (ps_raise rfl (takes_of rfl rfl rfl rfl) (pmk_errR TE iC tI FI hr bI (by rfl) (pa_cons (pv 1) pa_nil)))) pss_nil)
      (pss_one (ps_ret (pv 2)))), ?_⟩
    refine ⟨_, rfl, _, rfl, Z, v, u, z, i, b, y, fs, ds, rfl, hR, hu, fun e H1 s1 => ?_, fun p x H1 s1 e hx => ?_⟩
    · obtain ⟨sh, ke⟩ := k1 e
      refine ⟨_, rfl, rfl, _, rfl, iteT ?_⟩
      refine ⟨_, rfl, _, rfl, sh.same s1, fun dd nd => ke dd _ (sadd s1 nd) (s1.free nd) upd_same⟩
    · refine ⟨_, rfl, rfl, _, rfl, ?_⟩
      have ne : x ≠ .non := fun q => by
        rw [q] at hx
        cases hx
        cases y with
        | str n =>
          have m := List.mem_of_find?_eq_some (show (fs ++ ds).find? (fun p => decide (nameB p = n)) = some .none from e)
          obtain ⟨_, _, e2⟩ := part_fst hR.af hR.ad m
          cases e2
        | _ => cases e
      rw [decide_eq_false ne]
      exact iteF ⟨_, rfl, k2 p x H1 s1 e hx⟩
theorem sc_runs_of : FnScope ["source", "part"] ["source", "part"] (defScope s_runs_of) := ⟨rfl, rfl, rfl, by decide +kernel, rfl, by decide +kernel, by decide +kernel⟩
theorem ok_runs_of {f fR fN : Addr} {fd fdR fdN : FuncData} (F : Fun K "runs_of" "runs_of" s_runs_of f fd) (T : Txt K mg) (FR : FnOk P w K mg base (L2.CX P w) 19 fR fdR ["source"] (spNeedRoom CR)) (mR : mg "need_room" = some (.ref fR)) (kR : PySem.W.keepIn K (.ref fR) = true) (bR : Binds K fdR ["source"] [])
    (FN : FnOk P w K mg base (L2.CX P w) 3 fN fdN ["source", "name"] (spNeedPart CN)) (mN : mg "need_part" = some (.ref fN)) (kN : PySem.W.keepIn K (.ref fN) = true) (bN : Binds K fdN ["source", "name"] [])
    (DR : DefF P w K mg base CX0 21 "run_names" ["source", "part"] (fun vs H Q E => ∃ j, j ≤ 6 ∧ spRunN j vs H Q E)) : FnOk P w K mg base (L2.CX P w) 22 f fd ["source", "part"] (spRunsOf CR CN) := by
  refine F.okX sc_runs_of (fun vs H Q E h => ?_) (fun cdv A outer s H vs Q E hr h => ?_)
  · obtain ⟨Z, v, u, d, y, rfl, _⟩ := h
    rfl
  · obtain ⟨Z, v, u, d, y, rfl, hv, hu, k0, k1, k2⟩ := h
    have hr19 : Room 19 _ := hr.mono (by decide)
    have hr3 : Room 3 _ := hr.mono (by decide)
    refine ⟨_, pss_cons (ps_expr (pe_callS FR hr19 rfl mR kR bR (fun σ => L2.passAt (takes_of rfl rfl rfl rfl) σ) (pa_cons (pv 0) pa_nil)))
      (pss_one (ps_ret (pe_callTy call_tuple_of (by rfl) T.nTuple (by decide +kernel) (pa_cons (pe_callB (call_sortedD rfl) (by rfl) T.nSorted (by decide +kernel) (pa_cons (pe_cD DR hr rfl pass0 (pa_cons (pv 0) (pa_cons (pe_callS FN hr3 rfl mN kN bN (fun σ => L2.passAt (takes_of rfl rfl rfl rfl) σ) (pa_cons (pv 0) (pa_cons (pv 1) pa_nil))) pa_nil))) pa_nil)) pa_nil)))), ?_⟩
    refine ⟨_, rfl, Z, v, d, rfl, hv, fun j H1 s1 => ?_, fun j H1 s1 => k0 j H1 s1⟩
    obtain ⟨z, i, b, fs, ds, rfl, hR, jb, ji⟩ := roomJ_at hv j
    have ok := bodies_ok hR.af hR.ad jb
    have ep : partsD (.tuple [.str z, i, b, .tuple fs, .tuple ds]) = fs ++ ds := rfl
    rw [ep] at k1 k2
    refine ⟨_, rfl, _, rfl, _, rfl, Z, v, u, z, i, b, y, fs, ds, rfl, hR.same s1, hu.same s1, fun e => ?_, fun p x H2 s2 e hx => ?_⟩
    · obtain ⟨sh, ke⟩ := k1 j e
      exact ⟨sh.same s1, fun dd H2 s2 nd hd => ke dd H2 (s1.trans s2) (s1.free nd) hd⟩
    · obtain ⟨j0, hj0, pt⟩ := part_pt ok hR.lf (partOf_in e)
      refine ⟨j0, hj0, Z, v, x, z, i, b, p, fs, ds, rfl, hR.same (s1.trans s2), ok, hx, pt, fun D ks H3 s3 nD hD nk iff l6 => ?_⟩
      refine ⟨D, _, ks, rfl, .inl hD, by rw [List.map_map]; rfl, by omega, fun ys q pm so nq => ?_⟩
      refine ⟨q, _, rfl, .inl ⟨SqL.of upd_same, fun l nl => ?_⟩⟩
      have sq := sadd (o := .lst (ys.map V.str)) (Same.refl H3) nq
      exact k2 j p e ys l _ ((s1.trans s2).trans (s3.trans (sadd sq nl))) upd_same so (pm.nodup_iff.mpr nk) fun z => by rw [pm.mem_iff, iff z]
end
end OH
end
section
set_option Elab.async false
set_option linter.all false
set_option maxRecDepth 100000
set_option maxHeartbeats 4000000
/-! Dicts by comprehension with two clauses. -/
namespace OH
open PySem PySem.Spec PyProof.Rows L2
/-- the second clause's start -/
theorem start2 {prog : Program} {w : World} {A : Around} {R : Result → Shared → Prop} {s : Shared} {kx vx t0 i0 t1 i1 : Expr} {ifs0 ifs1 : List Expr} {scope : Scope} {pos : Pos} {it acc : Value} {env : Env}
    (h0 : codeAny (model prog w) A (.compLoop (.DictComp kx vx [⟨t0, i0, ifs0, 0⟩, ⟨t1, i1, ifs1, 0⟩] scope pos) 1 it acc env) R s)
    (h : wpAny (model prog w) A (pyIter it) (fun it2 s2 => codeAny (model prog w) A (.compLoop (.DictComp kx vx [⟨t0, i0, ifs0, 0⟩, ⟨t1, i1, ifs1, 0⟩] scope pos) 1 it2 acc env) R s2) (notedBy (model prog w) A env fun x s2 => R (.error x) s2) s) :
    codeAny (model prog w) A (.compStart (.DictComp kx vx [⟨t0, i0, ifs0, 0⟩, ⟨t1, i1, ifs1, 0⟩] scope pos) 1 it acc env) R s := by
  refine codeAny_of_tree ?_
  show wpAny _ _ ((compStart (.DictComp kx vx [⟨t0, i0, ifs0, 0⟩, ⟨t1, i1, ifs1, 0⟩] scope pos) 1 it acc env).onRaise (fun x => do noteFrame x env; standAt theWindowsPlace)) _ _ s
  refine wpAny_notedAt ?_
  unfold compStart
  show wpAny _ _ (ask >>= _) _ _ s
  refine wpAny_bind (wpAny_askSetting (wpAny_ite ?_))
  split
  · first
      | exact wpAny_bind (wpAny_pure (wpAny_pure ⟨rfl, h0⟩))
      | exact wpAny_pure ⟨rfl, h0⟩
  · refine wpAny_bind (wpAny_rule ?_)
    first
      | exact wpAny_bind (wpAny_standAt (wpAny_bind (thn h fun it2 s2 h2 => wpAny_pure ⟨rfl, h2⟩)))
      | (show wpAny _ _ (standAt i1.pos >>= _) _ _ s; exact wpAny_bind (wpAny_standAt (wpAny_bind (thn h fun it2 s2 h2 => wpAny_pure ⟨rfl, h2⟩))))
def emit2 (kx vx t0 i0 t1 i1 : Expr) (ifs0 ifs1 : List Expr) (scope : Scope) (pos : Pos) : Addr → Env → Sem Unit := fun D env => do
  let x ← eval i1 env
  standAt i1.pos
  let x ← foldedSetIterable i1 env x
  let _ ← runOwn (.compStart (.DictComp kx vx [⟨t0, i0, ifs0, 0⟩, ⟨t1, i1, ifs1, 0⟩] scope pos) 1 (← holding [x] (pyIter x)) (.ref D) env) env
/-- the second clause's loop; vs1: the slots of its target -/
def Em2 (wi1 : TI) (g1 : TG) (tt1 : TT) (Em : TEm) (vs1 : List Nat) : TEm := fun D σ H Nx => wi1 σ H fun J1 H4 => ∃ W1 : Nat → Nat → Hp → Prop, (∃ m, W1 0 m H4) ∧ ∀ j k H2, W1 j k H2 →
  (J1.stop j H2 ∧ Nx H2) ∨ (J1.go j H2 ∧ ∃ Nx1 : Hp → Prop, (∀ H3, Nx1 H3 → ∃ k', k' < k ∧ W1 (j + 1) k' H3) ∧ ∀ x H3, J1.yld j H2 x H3 → g1 x (wipe σ vs1) H3 fun σ3 H5 => wipe σ3 vs1 = wipe σ vs1 ∧ tt1 σ3 H5 fun b H6 =>
    if b = true then Em D σ3 H6 Nx1 else Nx1 H6)
section
variable {X : Cx}
theorem em2_ok {kx vx t0 i0 t1 i1 : Expr} {ifs0 ifs1 : List Expr} {scope : Scope} {pos : Pos} {own : List (Str × Nat)} {vs1 : List Nat} {wi1 : TI} {g1 : TG} {tt1 : TT} {tk tv : TE} (hc : X.calm = true) (hu : X.A.units < cLine) (hsub : ∀ i ∈ vs1, i ∈ own.map (·.2))
    (hi1 : ∀ (s : Shared) (H : Hp) (C : Addr) (cl : List (Str × Addr)) (fp : List Addr), PI (X.blk s H scope (compEnvC scope cl C X.env) fp) t1 i1 wi1)
    (hg1 : ∀ (s : Shared) (H : Hp) (C : Addr) (cl : List (Str × Addr)) (fp : List Addr), PG (X.blk s H scope (compEnvC scope cl C X.env) fp) t1 g1)
    (ht1 : ∀ (s : Shared) (H : Hp) (C : Addr) (cl : List (Str × Addr)) (fp : List Addr), PTs (X.blk s H scope (compEnvC scope cl C X.env) fp) ifs1 tt1)
    (hk : ∀ (s : Shared) (H : Hp) (C : Addr) (cl : List (Str × Addr)) (fp : List Addr), PE (X.blk s H scope (compEnvC scope cl C X.env) fp) kx tk)
    (hv : ∀ (s : Shared) (H : Hp) (C : Addr) (cl : List (Str × Addr)) (fp : List Addr), PE (X.blk s H scope (compEnvC scope cl C X.env) fp) vx tv)
    (hs1 : ∀ env x, foldedSetIterable i1 env x = pure x) : EmOk X scope own (emit2 kx vx t0 i0 t1 i1 ifs0 ifs1 scope pos) (Em2 wi1 g1 tt1 (Em1 tk tv) vs1) := by
  intro s H C cl fp pins s9 σ8 H9 D Nx Fin I9 em fin
  have pi := hi1 s H C cl fp
  have pg := hg1 s H C cl fp
  have pt := ht1 s H C cl fp
  have em1 := fun pins' s9 σ8 H9 Nx Fin => em1_ok (own := vs1.map fun i => (("" : Str), i)) (scope := scope) hu hk hv s H C cl fp pins' s9 σ8 H9 D Nx Fin
  unfold emit2
  generalize compEnvC scope cl C X.env = ce at I9 fin pi pg pt em1 ⊢
  refine wpAny_bind (thnF (pi.run pins s9 σ8 H9 _ I9 em) fun xv t1' hx => ?_)
  refine wpAny_bind (wpAny_standAt (wpAny_bind (wpAny_of_eq (hs1 ce xv) (wpAny_bind (wpAny_holding (thnF hx fun itv t2 h2 => ?_))))))
  obtain ⟨it1, fp1, tn1, J1, H11, rfl, I11, T1, st11, f11, W1, ⟨m1, w1⟩, turn1⟩ := h2
  refine wpAny_bind (wpAny_runOwn ?_)
  rw [Around.mark_none]
  have stat1 : ∀ {H' : Hp}, (∀ b ∈ fp1, H' b = none) → ∀ b ∈ fp1, FpOk (X.blk s H scope ce fp) pins H' b := fun hn b hb => ⟨hn b hb, (f11 b hb).2⟩
  refine codeAny_mono (R := fun r s' => match r with
    | .ok _ => Fin s'
    | .error _ => False) ?_ fun r s' hr => ?_
  · refine (fun (loop : codeAny (model X.prog X.w) X.A (.compLoop (.DictComp kx vx [⟨t0, i0, ifs0, 0⟩, ⟨t1, i1, ifs1, 0⟩] scope pos) 1 (.ref it1) (.ref D) ce) (fun r s' => match r with
      | .ok _ => Fin s'
      | .error _ => False) t2) => start2 loop (T1.self X.A 0 _ _ _ st11 loop)) ?_
    refine loopE (emit := emit1 kx vx D ce) (p := i1.pos) (tg := t1) (ifs := ifs1) rfl (fun k t => ∃ j H', Inv (X.blk s H scope ce fp) pins (wipe σ8 vs1) H' t ∧ tn1 j t.heap ∧ (∀ b ∈ fp1, H' b = none) ∧ W1 j k H') ?_ m1 ⟨0, H11, I11.weak (wipe_length _ _) (fun j v e => (wipe_some e).1), st11, fun b hb => (f11 b hb).1, w1⟩
    rintro k t ⟨j, H12, I12, st12, n12, w12⟩
    rcases turn1 j k H12 w12 with ⟨stop1, nx1⟩ | ⟨go1, Nx1, hNx1, step1⟩
    · refine thnF (T1.done (X.blk s H scope ce fp) rfl rfl rfl hc j pins t (wipe σ8 vs1) H12 NoX I12 (stat1 n12) st12 stop1) fun r s13 ⟨hr, I13⟩ => ?_
      subst hr
      exact fin (wipe σ8 vs1) H12 s13 I13 (wipe_length _ _).symm (fun j v hj e => by rw [wipe_out fun z => hj (hsub j z)]; exact e) nx1
    · refine thnF (T1.item (X.blk s H scope ce fp) rfl rfl rfl hc j pins t (wipe σ8 vs1) H12 NoX I12 (stat1 n12) st12 go1) fun r s13 ⟨u1, hr, h13⟩ => ?_
      subst hr
      refine thnF h13 fun _ s14 ⟨x1, H14, I14, r14, y14, st14, n14⟩ => ?_
      refine thnF (pg.run _ s14 (wipe σ8 vs1) H14 x1 u1 _ (I14.pinned (stat1 n14) (T1.obj _ _ st14)) r14 (step1 x1 H14 y14)) fun _ s15 ⟨σ15, H15, I15, hw15, q15⟩ => ?_
      refine thnF (pt.run _ s15 σ15 H15 _ I15 q15) fun b1 s16 ⟨H16, I16, q16⟩ => ?_
      have turned : ∀ (σ' : L2.St) (H' : Hp) (s' : Shared), Inv (X.blk s H scope ce fp) (pins ++ pinsAt fp1 s14.heap) σ' H' s' → σ15.length = σ'.length → (∀ (j : Nat) (v : V), j ∉ vs1 → σ15[j]? = some (some v) → σ'[j]? = some (some v)) → Nx1 H' →
          ∃ m, m < k ∧ ∃ j H', Inv (X.blk s H scope ce fp) pins (wipe σ8 vs1) H' s' ∧ tn1 j s'.heap ∧ (∀ b ∈ fp1, H' b = none) ∧ W1 j m H' := fun σ' H' s' I' hl hkp nx => by
        obtain ⟨m', hm, w'⟩ := hNx1 H' nx
        have held : ∀ b ∈ fp1, ∀ o, s14.heap.get? b = some o → s'.heap.get? b = some o ∧ H' b = none := fun b hb o e =>
          let z := I'.pin (b, o) (List.mem_append_right _ (List.mem_append_right _ (mem_pinsAt hb e)))
          ⟨z.1, z.2.1⟩
        refine ⟨m', hm, j + 1, H', I'.unpinned.weak (by rw [← hl, ← hw15, wipe_length]) (fun j v e => ?_), T1.keep _ _ _ st14 fun b hb o e => (held b hb o e).1, fun b hb => ?_, w'⟩
        · rw [← hw15] at e
          exact hkp j v (wipe_some e).2 (wipe_some e).1
        · obtain ⟨o, e, _⟩ := T1.obj _ _ st14 b hb
          exact (held b hb o e).2
      cases b1 with
      | false =>
        rw [if_neg Bool.false_ne_true] at q16 ⊢
        exact turned σ15 H16 s16 I16 rfl (fun _ _ _ e => e) q16
      | true =>
        rw [if_pos rfl] at q16 ⊢
        exact em1 _ s16 σ15 H16 Nx1 _ I16 q16 fun σ' H' s' I' hl hkp nx => turned σ' H' s' I' hl (fun j v hj e => hkp j v (by rw [List.map_map]; simpa using hj) e) nx
  · cases r with
    | ok f => exact wpAny_pure hr
    | error e => exact hr.elim
theorem turnD2 (kx vx t0 i0 t1 i1 : Expr) (ifs0 ifs1 : List Expr) (scope : Scope) (pos : Pos) (it : Value) (D : Addr) (env : Env) :
    compTurn (.DictComp kx vx [⟨t0, i0, ifs0, 0⟩, ⟨t1, i1, ifs1, 0⟩] scope pos) 0 it (.ref D) env = (do
      standAt i0.pos
      match ← pyNext it with
      | none => pure (.done .next)
      | some v =>
        letOwnedTupleGo t0 it v
        assign t0 env v
        let mut ok := true
        for c in ifs0 do
          if ok then ok ← isTrue c env (eval c env)
        if ok then
          let x ← eval i1 env
          standAt i1.pos
          let x ← foldedSetIterable i1 env x
          let _ ← runOwn (.compStart (.DictComp kx vx [⟨t0, i0, ifs0, 0⟩, ⟨t1, i1, ifs1, 0⟩] scope pos) 1 (← holding [x] (pyIter x)) (.ref D) env) env
        again (.compLoop (.DictComp kx vx [⟨t0, i0, ifs0, 0⟩, ⟨t1, i1, ifs1, 0⟩] scope pos) 0 it (.ref D) env)) := by rfl
theorem turnE2 (kx vx t0 i0 t1 i1 : Expr) (ifs0 ifs1 : List Expr) (scope : Scope) (pos : Pos) (it : Value) (D : Addr) (env : Env) :
    compTurn (.DictComp kx vx [⟨t0, i0, ifs0, 0⟩, ⟨t1, i1, ifs1, 0⟩] scope pos) 0 it (.ref D) env = (do
      standAt i0.pos
      match ← pyNext it with
      | none => pure (.done .next)
      | some v =>
        letOwnedTupleGo t0 it v
        assign t0 env v
        let mut ok := true
        for c in ifs0 do
          if ok then ok ← isTrue c env (eval c env)
        if ok then emit2 kx vx t0 i0 t1 i1 ifs0 ifs1 scope pos D env
        again (.compLoop (.DictComp kx vx [⟨t0, i0, ifs0, 0⟩, ⟨t1, i1, ifs1, 0⟩] scope pos) 0 it (.ref D) env)) := by
  rw [turnD2]
  unfold emit2
  simp only [bind_assoc, pure_bind]
theorem pe_dm2 {kx vx t0 i0 t1 i1 : Expr} {ifs0 ifs1 : List Expr} {scope : Scope} {own : List (Str × Nat)} {vs1 : List Nat} {pos : Pos} {wi wi1 : TI} {g g1 : TG} {tt tt1 : TT} {tk tv : TE} {o0 : HO} (hc : X.calm = true) (hN : X.N.Nodup) (hu : X.A.units < cLine) (f0 : Fresh0 X o0) (hi : PI X t0 i0 wi) (ok : BlkOk X.N X.env.scope scope own)
    (hsub : ∀ i ∈ vs1, i ∈ own.map (·.2))
    (hg : ∀ (s : Shared) (H : Hp) (C : Addr) (cl : List (Str × Addr)) (fp : List Addr), PG (X.blk s H scope (compEnvC scope cl C X.env) fp) t0 g)
    (ht : ∀ (s : Shared) (H : Hp) (C : Addr) (cl : List (Str × Addr)) (fp : List Addr), PTs (X.blk s H scope (compEnvC scope cl C X.env) fp) ifs0 tt)
    (hi1 : ∀ (s : Shared) (H : Hp) (C : Addr) (cl : List (Str × Addr)) (fp : List Addr), PI (X.blk s H scope (compEnvC scope cl C X.env) fp) t1 i1 wi1)
    (hg1 : ∀ (s : Shared) (H : Hp) (C : Addr) (cl : List (Str × Addr)) (fp : List Addr), PG (X.blk s H scope (compEnvC scope cl C X.env) fp) t1 g1)
    (ht1 : ∀ (s : Shared) (H : Hp) (C : Addr) (cl : List (Str × Addr)) (fp : List Addr), PTs (X.blk s H scope (compEnvC scope cl C X.env) fp) ifs1 tt1)
    (hk : ∀ (s : Shared) (H : Hp) (C : Addr) (cl : List (Str × Addr)) (fp : List Addr), PE (X.blk s H scope (compEnvC scope cl C X.env) fp) kx tk)
    (hv : ∀ (s : Shared) (H : Hp) (C : Addr) (cl : List (Str × Addr)) (fp : List Addr), PE (X.blk s H scope (compEnvC scope cl C X.env) fp) vx tv)
    (hs : ∀ x, foldedSetIterable i0 X.env x = pure x := by intro _; rfl) (hs1 : ∀ env x, foldedSetIterable i1 env x = pure x := by intro _ _; rfl) :
    PE X (.DictComp kx vx [⟨t0, i0, ifs0, 0⟩, ⟨t1, i1, ifs1, 0⟩] scope pos) (tDm wi g tt (Em2 wi1 g1 tt1 (Em1 tk tv) vs1) o0 (own.map (·.2))) :=
  pe_dm hc hN hi ok hg ht f0 (em2_ok (t0 := t0) (i0 := i0) (ifs0 := ifs0) (pos := pos) hc hu hsub hi1 hg1 ht1 hk hv hs1) (fun _ _ _ => turnE2 ..) hs
/-- name = {..}, the name a local -/
theorem ps_setDm {i : Nat} {y : Str} {py : Pos} {kx vx tg iter : Expr} {ifs : List Expr} {rest : List Comprehension} {scope : Scope} {own : List (Str × Nat)} {pos spos : Pos} {wi : TI} {g : TG} {tt : TT} {Em : TEm} {o0 : HO} {emit : Addr → Env → Sem Unit} (hc : X.calm = true) (hN : X.N.Nodup)
    (hy : X.N[i]? = some y) (hyl : X.env.scope.names.lookup y = some .local) (hsw : swapsWith (.DictComp kx vx (⟨tg, iter, ifs, 0⟩ :: rest) scope pos) (some (.Name y py)) spos.line X.env = pure true) (hi : PI X tg iter wi) (ok : BlkOk X.N X.env.scope scope own)
    (hg : ∀ (s : Shared) (H : Hp) (C : Addr) (cl : List (Str × Addr)) (fp : List Addr), PG (X.blk s H scope (compEnvC scope cl C X.env) fp) tg g)
    (ht : ∀ (s : Shared) (H : Hp) (C : Addr) (cl : List (Str × Addr)) (fp : List Addr), PTs (X.blk s H scope (compEnvC scope cl C X.env) fp) ifs tt)
    (f0 : Fresh0 X o0) (hem : EmOk X scope own emit Em)
    (het : ∀ (it : Value) (D : Addr) (env : Env), compTurn (.DictComp kx vx (⟨tg, iter, ifs, 0⟩ :: rest) scope pos) 0 it (.ref D) env = (do
      standAt iter.pos
      match ← pyNext it with
      | none => pure (.done .next)
      | some v =>
        letOwnedTupleGo tg it v
        assign tg env v
        let mut ok := true
        for c in ifs do
          if ok then ok ← isTrue c env (eval c env)
        if ok then emit D env
        again (.compLoop (.DictComp kx vx (⟨tg, iter, ifs, 0⟩ :: rest) scope pos) 0 it (.ref D) env)))
    (hs : ∀ x, foldedSetIterable iter X.env x = pure x := by intro _; rfl) :
    PS X (.Assign [.Name y py] (.DictComp kx vx (⟨tg, iter, ifs, 0⟩ :: rest) scope pos) spos) (tAsg (tDm wi g tt Em o0 (own.map (·.2))) (gName i)) := by
  refine ⟨fun pins s σ H D I hw => ?_⟩
  rw [exec_Assign_Name_used _ _ _ _ hsw]
  refine wpAny_bind (wpAny_standAt (wpAny_bind ?_))
  show wpAny _ X.A (do let _ ← comprehension (.DictComp kx vx (⟨tg, iter, ifs, 0⟩ :: rest) scope pos) scope X.env (firstIterPos (⟨tg, iter, ifs, 0⟩ :: rest) pos) newDict false (eval iter X.env) (some (assign (.Name y py) X.env))) _ _ s
  have hw : tDm wi g tt Em o0 (own.map (·.2)) σ H (fun x H1 => gName i x σ H1 D.nx) := hw
  refine wpAny_bind (thn (dm_core (Qf := fun _ t => SP X pins D .next t) hc hN I hi ok hg ht f0 hem het hs hw fun L C t m H' I' q hn z => ?_) fun _ t hq => wpAny_pure (wpAny_pure hq))
  show wpAny _ _ (assign (.Name y py) X.env (.ref L)) _ _ _
  refine wpAny_assign_Name (store_ok2 (v := V.ref L) I' hN hy (.inl hyl) rfl (fun t2 I2 ⟨a, sb, ha⟩ => ?_) (.inr hyl))
  obtain ⟨z0, z1, z2, z3, z4, z5⟩ := z
  have away : C ≠ a := ha.elim (fun e => by rw [e]; exact z1) fun e e2 => z4 y a e e2.symm
  exact ⟨m, hn.sameBut sb away, fun h3 sb3 => ⟨_, H', I2.turned (t' := t2.toks) (fun b o hb e => (sb3.2 b hb).trans e) z0 z1 z3 z4 z5, q⟩⟩
theorem ps_setDm2 {i : Nat} {y : Str} {py spos : Pos} {kx vx t0 i0 t1 i1 : Expr} {ifs0 ifs1 : List Expr} {scope : Scope} {own : List (Str × Nat)} {vs1 : List Nat} {pos : Pos} {wi wi1 : TI} {g g1 : TG} {tt tt1 : TT} {tk tv : TE} {o0 : HO} (hc : X.calm = true) (hN : X.N.Nodup) (hu : X.A.units < cLine) (f0 : Fresh0 X o0)
    (hy : X.N[i]? = some y) (hyl : X.env.scope.names.lookup y = some .local) (hsw : swapsWith (.DictComp kx vx [⟨t0, i0, ifs0, 0⟩, ⟨t1, i1, ifs1, 0⟩] scope pos) (some (.Name y py)) spos.line X.env = pure true) (hi : PI X t0 i0 wi) (ok : BlkOk X.N X.env.scope scope own) (hsub : ∀ i ∈ vs1, i ∈ own.map (·.2))
    (hg : ∀ (s : Shared) (H : Hp) (C : Addr) (cl : List (Str × Addr)) (fp : List Addr), PG (X.blk s H scope (compEnvC scope cl C X.env) fp) t0 g)
    (ht : ∀ (s : Shared) (H : Hp) (C : Addr) (cl : List (Str × Addr)) (fp : List Addr), PTs (X.blk s H scope (compEnvC scope cl C X.env) fp) ifs0 tt)
    (hi1 : ∀ (s : Shared) (H : Hp) (C : Addr) (cl : List (Str × Addr)) (fp : List Addr), PI (X.blk s H scope (compEnvC scope cl C X.env) fp) t1 i1 wi1)
    (hg1 : ∀ (s : Shared) (H : Hp) (C : Addr) (cl : List (Str × Addr)) (fp : List Addr), PG (X.blk s H scope (compEnvC scope cl C X.env) fp) t1 g1)
    (ht1 : ∀ (s : Shared) (H : Hp) (C : Addr) (cl : List (Str × Addr)) (fp : List Addr), PTs (X.blk s H scope (compEnvC scope cl C X.env) fp) ifs1 tt1)
    (hk : ∀ (s : Shared) (H : Hp) (C : Addr) (cl : List (Str × Addr)) (fp : List Addr), PE (X.blk s H scope (compEnvC scope cl C X.env) fp) kx tk)
    (hv : ∀ (s : Shared) (H : Hp) (C : Addr) (cl : List (Str × Addr)) (fp : List Addr), PE (X.blk s H scope (compEnvC scope cl C X.env) fp) vx tv)
    (hs : ∀ x, foldedSetIterable i0 X.env x = pure x := by intro _; rfl) (hs1 : ∀ env x, foldedSetIterable i1 env x = pure x := by intro _ _; rfl) :
    PS X (.Assign [.Name y py] (.DictComp kx vx [⟨t0, i0, ifs0, 0⟩, ⟨t1, i1, ifs1, 0⟩] scope pos) spos) (tAsg (tDm wi g tt (Em2 wi1 g1 tt1 (Em1 tk tv) vs1) o0 (own.map (·.2))) (gName i)) :=
  ps_setDm hc hN hy hyl hsw hi ok hg ht f0 (em2_ok (t0 := t0) (i0 := i0) (ifs0 := ifs0) (pos := pos) hc hu hsub hi1 hg1 ht1 hk hv hs1) (fun _ _ _ => turnE2 ..) hs
/-- over a list that stays -/
theorem dm_it {J : It} {n : Nat} {G : Hp → Prop} {Y : Nat → Hp → V → Hp → Prop} (wk : Walk J n G Y) {g : TG} {tt : TT} {Em : TEm} {vs : List Nat} {σ : L2.St} {H1 : Hp} {D : Addr} {o0 : HO} {Qd : Hp → Prop} (Pv : Nat → Hp → Prop) (h0 : Pv 0 (upd H1 D o0)) (hG : ∀ i H, i ≤ n → Pv i H → G H)
    (hs : ∀ i x H H', i < n → Pv i H → Y i H x H' → g x (wipe σ vs) H' fun σ2 H2 => wipe σ2 vs = wipe σ vs ∧ tt σ2 H2 fun b H3 => if b = true then Em D σ2 H3 (Pv (i + 1)) else Pv (i + 1) H3) (hd : ∀ H, Pv n H → Qd H) :
    ∃ W : Nat → Nat → Hp → Prop, (∃ m, W 0 m (upd H1 D o0)) ∧ ∀ i m H, W i m H →
      (J.stop i H ∧ Qd H) ∨ (J.go i H ∧ ∃ Nx : Hp → Prop, (∀ H', Nx H' → ∃ m', m' < m ∧ W (i + 1) m' H') ∧ ∀ x H', J.yld i H x H' → g x (wipe σ vs) H' fun σ2 H2 => wipe σ2 vs = wipe σ vs ∧ tt σ2 H2 fun b H3 =>
        if b = true then Em D σ2 H3 Nx else Nx H3) := by
  refine ⟨fun i m H => m = n - i ∧ i ≤ n ∧ Pv i H, ⟨n, by simp, Nat.zero_le _, h0⟩, ?_⟩
  rintro i m H ⟨rfl, hi, p⟩
  have q := hG i H hi p
  rcases Nat.lt_or_ge i n with hlt | hge
  · exact .inr ⟨wk.goes i H hlt q, Pv (i + 1), fun H' p' => ⟨n - (i + 1), by omega, rfl, hlt, p'⟩, fun x H' y => hs i x H H' hlt p (wk.yields i H x H' hlt q y)⟩
  · have e : i = n := by omega
    subst e
    exact .inl ⟨wk.stops H q, hd H p⟩
/-- the inner walk -/
theorem em2_it {J : It} {n : Nat} {G : Hp → Prop} {Y : Nat → Hp → V → Hp → Prop} (wk : Walk J n G Y) {g1 : TG} {tt1 : TT} {Em : TEm} {vs1 : List Nat} {σ : L2.St} {H4 : Hp} {D : Addr} {Nx : Hp → Prop} (Pv : Nat → Hp → Prop) (h0 : Pv 0 H4) (hG : ∀ i H, i ≤ n → Pv i H → G H)
    (hs : ∀ i x H H', i < n → Pv i H → Y i H x H' → g1 x (wipe σ vs1) H' fun σ3 H2 => wipe σ3 vs1 = wipe σ vs1 ∧ tt1 σ3 H2 fun b H3 => if b = true then Em D σ3 H3 (Pv (i + 1)) else Pv (i + 1) H3) (hd : ∀ H, Pv n H → Nx H) :
    ∃ W1 : Nat → Nat → Hp → Prop, (∃ m, W1 0 m H4) ∧ ∀ j k H2, W1 j k H2 →
      (J.stop j H2 ∧ Nx H2) ∨ (J.go j H2 ∧ ∃ Nx1 : Hp → Prop, (∀ H3, Nx1 H3 → ∃ k', k' < k ∧ W1 (j + 1) k' H3) ∧ ∀ x H3, J.yld j H2 x H3 → g1 x (wipe σ vs1) H3 fun σ3 H5 => wipe σ3 vs1 = wipe σ vs1 ∧ tt1 σ3 H5 fun b H6 =>
        if b = true then Em D σ3 H6 Nx1 else Nx1 H6) := by
  refine ⟨fun i m H => m = n - i ∧ i ≤ n ∧ Pv i H, ⟨n, by simp, Nat.zero_le _, h0⟩, ?_⟩
  rintro i m H ⟨rfl, hi, p⟩
  have q := hG i H hi p
  rcases Nat.lt_or_ge i n with hlt | hge
  · exact .inr ⟨wk.goes i H hlt q, Pv (i + 1), fun H' p' => ⟨n - (i + 1), by omega, rfl, hlt, p'⟩, fun x H' y => hs i x H H' hlt p (wk.yields i H x H' hlt q y)⟩
  · have e : i = n := by omega
    subst e
    exact .inl ⟨wk.stops H q, hd H p⟩
end
end OH
end
section
set_option Elab.async false
set_option linter.all false
set_option maxRecDepth 100000
set_option maxHeartbeats 4000000
/-! Pairs of strings, sorted. -/
namespace OH
open PySem PySem.Spec PyProof.Rows L2 SrtO
abbrev ltC (x y : Str) : Bool := decide (x.cps.toList < y.cps.toList)
def ltS (p q : Str × Str) : Bool := if p.1 = q.1 then ltC p.2 q.2 else ltC p.1 q.1
theorem str_eq {x y : Str} (h : x.cps.toList = y.cps.toList) : x = y := by
  cases x
  cases y
  exact congrArg PySem.Str.mk (Array.toList_inj.mp h)
theorem ltC_irr (x : Str) : ltC x x = false := decide_eq_false (List.lt_irrefl _)
theorem ltC_asym {x y : Str} (h : ltC x y = true) : ltC y x = false := decide_eq_false fun q => List.lt_asymm (of_decide_eq_true h) q
theorem ltC_tr {x y z : Str} (h : ltC x y = true) (g : ltC y z = true) : ltC x z = true := decide_eq_true (List.lt_trans (of_decide_eq_true h) (of_decide_eq_true g))
theorem ltC_tot {x y : Str} (h : ltC x y = false) (g : ltC y x = false) : x = y := str_eq (List.le_antisymm (List.not_lt.mp (of_decide_eq_false g)) (List.not_lt.mp (of_decide_eq_false h)))
theorem ltS_tr {p q r : Str × Str} (h : ltS p q = true) (g : ltS q r = true) : ltS p r = true := by
  unfold ltS at *
  by_cases e1 : p.1 = q.1
  · rw [if_pos e1] at h
    by_cases e2 : q.1 = r.1
    · rw [if_pos e2] at g
      rw [if_pos (e1.trans e2)]
      exact ltC_tr h g
    · rw [if_neg e2] at g
      rw [if_neg (by rw [e1]; exact e2), e1]
      exact g
  · rw [if_neg e1] at h
    by_cases e2 : q.1 = r.1
    · rw [← e2, if_neg e1]
      exact h
    · rw [if_neg e2] at g
      have t := ltC_tr h g
      rw [if_neg fun e => by rw [e, ltC_irr] at t; cases t]
      exact t
theorem ltS_irr (p : Str × Str) : ltS p p = false := by
  unfold ltS
  rw [if_pos rfl]
  exact ltC_irr _
theorem ltS_tot {p q : Str × Str} (h : ltS p q = false) (g : ltS q p = false) : p = q := by
  unfold ltS at *
  by_cases e1 : p.1 = q.1
  · rw [if_pos e1] at h
    rw [if_pos e1.symm] at g
    exact Prod.ext e1 (ltC_tot h g)
  · rw [if_neg e1] at h
    rw [if_neg fun e => e1 e.symm] at g
    exact absurd (ltC_tot h g) e1
theorem swo_ltS {α : Type} (k : α → Str × Str) : Swo fun v u => ltS (k v) (k u) := by
  refine ⟨fun x y h => ?_, fun x y z h g => ?_⟩
  · rcases bcase (ltS (k y) (k x)) with e | e
    · have t := ltS_tr h e
      rw [ltS_irr] at t
      cases t
    · exact e
  · rcases bcase (ltS (k z) (k x)) with e | e
    · rcases bcase (ltS (k x) (k y)) with e2 | e2
      · have t := ltS_tr e e2
        have g : ltS (k z) (k y) = false := g
        rw [g] at t
        cases t
      · have q := ltS_tot e2 h
        rw [q] at e
        have g : ltS (k z) (k y) = false := g
        rw [g] at e
        cases e
    · exact e
/-- sorted pairs are told by what they are -/
theorem srt_uniq {xs ys : List (Str × Str)} (hx : Srtd ltS xs) (hy : Srtd ltS ys) (p : xs.Perm ys) : xs = ys := by
  induction xs generalizing ys with
  | nil => exact (List.Perm.nil_eq p)
  | cons x xs ih =>
    cases ys with
    | nil => exact absurd p.length_eq (by simp)
    | cons y ys =>
      have e : x = y := by
        have h1 : ltS x y = false := by
          rcases List.mem_cons.mp (p.mem_iff.mp List.mem_cons_self) with e | m
          · rw [e]; exact ltS_irr y
          · exact srtd_head hy x m
        have h2 : ltS y x = false := by
          rcases List.mem_cons.mp (p.mem_iff.mpr List.mem_cons_self) with e | m
          · rw [e]; exact ltS_irr x
          · exact srtd_head hx y m
        exact ltS_tot h1 h2
      subst e
      rw [ih (List.pairwise_cons.mp hx).2 (List.pairwise_cons.mp hy).2 p.cons_inv]
section
variable {prog : Program} {w : World} {A : Around} {E : Value → Shared → Prop} {s : Shared}
/-- a tuple of two strings -/
def IsPS (h : Heap) (v : Value) (x y : Str) : Prop := ∃ (a : Addr) (o : Obj) (t u : Tok) (n : Nat), v = .ref a ∧ h.get? a = some o ∧ o.cls = .type "tuple" ∧ o.data = .seq #[.str x t, .str y u] n
theorem IsPS.keeps {h h' : Heap} {v : Value} {x y : Str} (p : IsPS h v x y) (k : ∀ b o, h.get? b = some o → o.cls = .type "tuple" → h'.get? b = some o) : IsPS h' v x y := by
  obtain ⟨a, o, t, u, n, e, ho, hc, hd⟩ := p
  exact ⟨a, o, t, u, n, e, k _ _ ho hc, hc, hd⟩
theorem ps_firsts {h : Heap} : ∀ {vs : List Value}, (∀ v ∈ vs, ∃ x y, IsPS h v x y) → ∃ fs : List Value, PySem.W.KatTups h vs fs ∧ fs.length = vs.length ∧ ∀ f ∈ fs, ∃ x t, f = Value.str x t
  | [], _ => ⟨[], PySem.W.KatTups.nil, rfl, fun _ hm => absurd hm List.not_mem_nil⟩
  | v :: vs, hp => by
    obtain ⟨fs, h1, h2, h3⟩ := ps_firsts (vs := vs) fun u hm => hp u (List.mem_cons_of_mem _ hm)
    obtain ⟨x, y, a, o, t, u, n, e, ho, hc, hd⟩ := hp v List.mem_cons_self
    subst e
    refine ⟨.str x t :: fs, PySem.W.KatTups.cons ho hc hd rfl h1, by rw [List.length_cons, List.length_cons, h2], fun f hm => ?_⟩
    rcases List.mem_cons.mp hm with e | hm
    · exact ⟨x, t, e⟩
    · exact h3 f hm
theorem ps_cmp {vs : List Value} {k : Value → Str × Str} (hp : ∀ v ∈ vs, IsPS s.heap v (k v).1 (k v).2) : SrtO.Cmp prog w A s (tuples' true) (fun p => p.1 ∈ vs) (lt2 fun v u => ltS (k v) (k u)) := by
  intro p q hm hm'
  have h1 := hp _ hm
  have h2 := hp _ hm'
  show wpAny (model prog w) A (keyLt' (tuples' true) p.1 q.1) (fun r s' => s' = s ∧ r = ltS (k p.1) (k q.1)) (fun _ _ => False) s
  unfold ltS
  generalize (k p.1).1 = x at h1 ⊢
  generalize (k p.1).2 = y at h1 ⊢
  generalize (k q.1).1 = x' at h2 ⊢
  generalize (k q.1).2 = y' at h2 ⊢
  obtain ⟨a, o, t, u, n, e, ho, hc, hd⟩ := h1
  obtain ⟨a', o', t', u', n', e', ho', hc', hd'⟩ := h2
  rw [e, e']
  refine PySem.W.kat_lt ho hd ho' hd' ?_
  show PySem.W.KatLex prog w A true (decide (2 < 2)) _ [(.str x t, .str x' t'), (.str y u, .str y' u')] 0 s
  refine PySem.W.kat_cons (SeqAt.EqAt.str_str x t x' t' prog w _ _ ?_)
  refine PySem.W.kat_go (fun e1 => ?_) (fun e1 => ?_)
  · have ex : x = x' := by simpa using e1
    refine PySem.W.kat_yes (PySem.W.kat_cons (SeqAt.EqAt.str_str y u y' u' prog w _ _ ?_))
    refine PySem.W.kat_go (fun e2 => ?_) (fun e2 => ?_)
    · have ey : y = y' := by simpa using e2
      have e3 : (if x = x' then ltC y y' else ltC x x') = false := by
        rw [if_pos ex, ey]
        exact ltC_irr _
      exact PySem.W.kat_yes (PySem.W.kat_nil ⟨rfl, e3.symm⟩)
    · have e3 : (if x = x' then ltC y y' else ltC x x') = ltC y y' := if_pos ex
      refine PySem.W.kat_no (PySem.W.kat_one _ _ (PyProof.Rows.lt_str ?_))
      exact (show s = s ∧ ltC y y' = (if x = x' then ltC y y' else ltC x x') from ⟨rfl, e3.symm⟩)
  · have ex : ¬ x = x' := by simpa using e1
    have e3 : (if x = x' then ltC y y' else ltC x x') = ltC x x' := if_neg ex
    exact PySem.W.kat_no (oneLt_str ⟨rfl, e3.symm⟩)
theorem ps_sortable {a : Addr} {vs : List Value} {k : Value → Str × Str} (h0 : 0 < vs.length) (hp : ∀ v ∈ vs, IsPS s.heap v (k v).1 (k v).2) (ha : ∀ o, s.heap.get? a = some o → o.cls ≠ .type "tuple") : SortableO prog w A s a vs fun v u => ltS (k v) (k u) := by
  intro h' keep
  have hp' : ∀ v ∈ vs, IsPS h' v (k v).1 (k v).2 := fun v hm => (hp v hm).keeps fun b o e c => keep b o (fun z => by subst z; exact ha o e c) e
  obtain ⟨fs, h1, h2, h3⟩ := ps_firsts fun v hm => ⟨_, _, hp' v hm⟩
  refine ⟨tuples' true, fun Q E hq => ?_, ps_cmp hp'⟩
  refine PySem.W.kat_kind (T := .type "str") h1 (by omega) (fun f hm => ?_) (by rfl) ?_
  · obtain ⟨x, t, rfl⟩ := h3 f hm
    exact PySem.W.Looks.now
  · have e : (Value.type "str" != Value.type "tuple") = true := by first | decide +kernel | rfl | decide
    rw [e]
    exact hq
end
end OH
end
section
set_option Elab.async false
set_option linter.all false
set_option maxRecDepth 100000
set_option maxHeartbeats 4000000
/-! sorted(d) of a dict whose keys are pairs of strings. -/
namespace OH
open PySem PySem.Spec PyProof.Rows L2 SrtO
def keyPS (h : Heap) (v : Value) : PySem.Str × PySem.Str := match v with
  | .ref a => (match h.get? a with
    | some o => (match o.data with
      | .seq xs _ => (match xs.toList with
        | [.str x _, .str y _] => (x, y)
        | _ => default)
      | _ => default)
    | none => default)
  | _ => default
theorem IsPS.key {h : Heap} {v : Value} {x y : PySem.Str} (p : IsPS h v x y) : keyPS h v = (x, y) := by
  obtain ⟨a, o, t, u, n, rfl, ho, hc, hd⟩ := p
  show (match h.get? a with
    | some o => (match o.data with
      | .seq xs _ => (match xs.toList with
        | [.str x _, .str y _] => (x, y)
        | _ => default)
      | _ => default)
    | none => (default : PySem.Str × PySem.Str)) = _
  rw [ho]
  show (match o.data with
      | .seq xs _ => (match xs.toList with
        | [.str x _, .str y _] => (x, y)
        | _ => default)
      | _ => (default : PySem.Str × PySem.Str)) = _
  rw [hd]
theorem ps_of {X : Cx} {pins : List (Addr × Obj)} {σ : L2.St} {H : Hp} {s : Shared} (I : Inv X pins σ H s) {b : Addr} {x y : PySem.Str} (e : H b = some (.tup [.str x, .str y])) : IsPS s.heap (.ref b) x y := by
  obtain ⟨its, rv, ⟨o, ho, hcl, n, hd⟩, _⟩ := I.tuple (SqT.of e)
  cases rv with
  | cons r1 rv =>
    cases rv with
    | cons r2 rv =>
      cases rv
      obtain ⟨t, rfl⟩ := r1
      obtain ⟨u, rfl⟩ := r2
      exact ⟨b, o, t, u, n, rfl, ho, hcl, hd⟩
theorem paired_get {α β : Type} {F : α → β → Prop} : ∀ {l : List α} {m : List β} {j : Nat} {x : β}, Paired F l m → m[j]? = some x → ∃ y, l[j]? = some y ∧ F y x
  | _, _, j, x, .nil, h => by cases j <;> cases h
  | _, _, 0, x, .cons f _, h => by cases h; exact ⟨_, rfl, f⟩
  | _, _, j + 1, x, .cons _ t, h => paired_get (j := j) t h
/-- pairs of strings at addresses -/
def PsAt (H : Hp) (bs : List Addr) (ys : List (PySem.Str × PySem.Str)) : Prop := Paired (fun b y => H b = some (.tup [.str y.1, .str y.2])) bs ys
abbrev pkey (q : PySem.Str × PySem.Str) : List Key := [Sum.inr q.1, Sum.inr q.2]
def rSortDT : List V → Hp → VK → Prop := fun vs H Q => ∃ (d : Addr) (ks : List (PySem.Str × PySem.Str)), vs = [.ref d] ∧ H d = some (.dT (ks.map fun q => (pkey q, V.bl true))) ∧ ks.length ≤ 100000 ∧
  ∀ (ys : List (PySem.Str × PySem.Str)) (bs : List Addr) p, ys.Perm ks → Srtd ltS ys → H p = none → PsAt H bs ys → Q (.ref p) (upd H p (.lst (bs.map V.ref)))
theorem refs_map : ∀ bs : List Addr, Vals (bs.map V.ref) (bs.map Value.ref)
  | [] => .nil
  | _ :: r => .cons rfl (refs_map r)
section
variable {X : Cx}
theorem cr_sortedDT (hc : X.calm = true) : CallR X (.builtin "sorted") rSortDT := by
  intro pins s σ H vs us Q I r h
  obtain ⟨d, ks, rfl, hd, few, q⟩ := h
  rw [Vals.ref1 r]
  have sL := sizeLine_eq
  obtain ⟨z, lo, xs, rel, o, es, ep, ho, hx, hdt, he, _, hn⟩ := dt_of I.hok hd
  have l1 : es.size = xs.length := size_of_entries he
  have l2 : ks.length = xs.length := by have := Paired.length rel; rwa [List.length_map] at this
  -- the pairs behind the keys
  have at_ : ∀ (j : Nat) (b : List Key × Addr × Value), xs[j]? = some b → ∃ y, ks[j]? = some y ∧ H b.2.1 = some (.tup [.str y.1, .str y.2]) := fun j b hb => by
    obtain ⟨e, h1, h2, h3, _⟩ := paired_get rel hb
    rw [List.getElem?_map] at h1
    obtain ⟨y, hy, e2⟩ := Option.map_eq_some_iff.mp h1
    subst e2
    exact ⟨y, hy, h3⟩
  refine Calls.call_function_entry kind_sorted plain_sorted entry_sorted (args_sorted1 _) ?_
  unfold Builtin.«sorted»
  refine wpAny_bind (m := checkCount "sorted" 1 1 _) (wpAny_pure ?_)
  refine wpAny_bind (PySem.W.kdu_collect (A := X.A.in1) (kdl_raw lo hx hdt) (I.ok.hd hc) ho (by omega) fun h' tk acc keep it => ?_)
  have ea : acc.toList = (xs.map fun x => x.2.1).map Value.ref := by
    apply List.ext_getElem?
    intro j
    rw [List.map_map, List.getElem?_map]
    have hl : acc.toList.length = xs.length := by rw [Array.length_toList, it.1]; exact l1
    cases hj : acc.toList[j]? with
    | none => rw [List.getElem?_eq_none (by have := List.getElem?_eq_none_iff.mp hj; omega)]; rfl
    | some v =>
      obtain ⟨en, hen, hv⟩ := it.2 j v (by rw [← Array.getElem?_toList]; exact hj)
      have qe := entry_at he j
      rw [hen] at qe
      cases hb : xs[j]? with
      | none => rw [hb] at qe; cases qe
      | some b =>
        rw [hb] at qe
        have e2 : en = entryOfKey (tupleKind (mixKind X.prog X.w)) b := Option.some.inj qe
        rw [hv, e2]
        rfl
  have psv : ∀ v ∈ acc.toList, IsPS s.heap v (keyPS s.heap v).1 (keyPS s.heap v).2 ∧ ∃ b, v = .ref b ∧ H b = some (.tup [.str (keyPS s.heap v).1, .str (keyPS s.heap v).2]) := fun v hv => by
    rw [ea, List.map_map] at hv
    obtain ⟨b, hb, rfl⟩ := List.mem_map.mp hv
    obtain ⟨j, hj⟩ := List.mem_iff_getElem?.mp hb
    obtain ⟨y, hy, hH⟩ := at_ j b hj
    have p := ps_of I hH
    have e := p.key
    show IsPS s.heap (.ref b.2.1) _ _ ∧ _
    rw [show keyPS s.heap ((Value.ref ∘ fun x : List Key × Addr × Value => x.2.1) b) = (y.1, y.2) from e]
    exact ⟨p, b.2.1, rfl, hH⟩
  have keysOf : acc.toList.map (keyPS s.heap) = ks := by
    apply List.ext_getElem?
    intro j
    rw [ea, List.map_map, List.map_map, List.getElem?_map]
    cases hb : xs[j]? with
    | none => rw [List.getElem?_eq_none (by have := List.getElem?_eq_none_iff.mp hb; omega)]; rfl
    | some b =>
      obtain ⟨y, hy, hH⟩ := at_ j b hb
      rw [hy]
      exact congrArg some (ps_of I hH).key
  have la : acc.toList.length = ks.length := by rw [← keysOf, List.length_map]
  refine wpAny_bind (wpAny_newList ?_ (by omega))
  have hoL : (h'.push (seqObj "list" acc.toList.toArray 0)).get? h'.objs.size = some (seqObj "list" acc.toList.toArray 0) := Heap.get?_push_size _ rfl
  have kp2 : ∀ b u, s.heap.get? b = some u → (h'.push (seqObj "list" acc.toList.toArray 0)).get? b = some u := fun b u e => Heap.get?_push_of_some _ (keep b u e)
  show wpAny _ _ _ _ _ { s with heap := h'.push (seqObj "list" acc.toList.toArray 0), toks := tk }
  refine wpAny_bind (wpAny_holding (wpAny_call_entry slot_list_sort ⟨_, hoL, rfl⟩ entry_list_sort
    (list_sort_ord (swo_ltS (keyPS s.heap)) (s := { s with heap := h'.push (seqObj "list" acc.toList.toArray 0), toks := tk }) hoL (by omega) (fun h2 => ps_sortable (by omega) (fun v hv => (psv v hv).1.keeps fun b u e _ => kp2 b u e) fun u e => ?_) fun out hs hb => ⟨_, rfl, ?_⟩)
    (args_list_sort _)))
  · have e' := e.symm.trans hoL
    cases e'
    intro c
    exact absurd (Value.type.inj c) (by decide)
  obtain ⟨c, hcF⟩ := sortedHeap_at (vs := acc.toList) (out := out.toArray) hoL
  obtain ⟨bs, hbs⟩ : ∃ bs : List Addr, out = bs.map Value.ref := by
    have all : ∀ v ∈ out, ∃ b, v = Value.ref b := fun v hv => by
      obtain ⟨_, b, e, _⟩ := psv v (hb.perm.mem_iff.mp hv)
      exact ⟨b, e⟩
    clear hs hb hcF
    induction out with
    | nil => exact ⟨[], rfl⟩
    | cons v vs ih =>
      obtain ⟨b, rfl⟩ := all v List.mem_cons_self
      obtain ⟨bs, e⟩ := ih fun u hu => all u (List.mem_cons_of_mem _ hu)
      exact ⟨b :: bs, by rw [e]; rfl⟩
  have hps : PsAt H bs (out.map (keyPS s.heap)) := by
    have all : ∀ b ∈ bs, H b = some (.tup [.str (keyPS s.heap (.ref b)).1, .str (keyPS s.heap (.ref b)).2]) := fun b hb' => by
      obtain ⟨_, b2, e, hH⟩ := psv (.ref b) (hb.perm.mem_iff.mp (by rw [hbs]; exact List.mem_map.mpr ⟨b, hb', rfl⟩))
      cases e
      exact hH
    rw [hbs, List.map_map]
    clear hbs hs hb hcF
    induction bs with
    | nil => exact Paired.nil
    | cons b bs ih => exact Paired.cons (all b List.mem_cons_self) (ih fun x hx => all x (List.mem_cons_of_mem _ hx))
  have I1 : Inv X pins σ H { s with heap := h', toks := tk } := I.kept keep
  have hp0 : H h'.objs.size = none := I1.hok.fresh (Nat.le_refl _)
  refine wpAny_pure ⟨_, rfl, .ref h'.objs.size, upd H h'.objs.size (.lst (bs.map V.ref)), I1.laid (t' := tk) (fun b u e => ?_) (Nat.le_refl _) ?_, rfl, q _ bs _ ?_ (srtd_map hs) hp0 hps⟩
  · have hb2 : b < h'.objs.size := Heap.lt_size e
    rw [sortedHeap_old (Nat.ne_of_lt hb2) (by rw [size_push']; exact Nat.lt_succ_of_lt hb2)]
    exact Heap.get?_push_of_some _ e
  · refine (show ObjOk X.prog X.w _ _ _ (.lst (bs.map V.ref)) from ⟨?_, out, c, by rw [hbs]; exact refs_map bs, hcF⟩)
    have := hb.len
    rw [hbs, List.length_map] at this
    rw [List.length_map]
    omega
  · have := hb.perm.map (keyPS s.heap)
    rwa [keysOf] at this
end
end OH
end
section
set_option Elab.async false
set_option linter.all false
set_option maxRecDepth 100000
set_option maxHeartbeats 4000000
/-! What a part may ask. -/
namespace OH
open PySem PySem.Spec PyProof.Rows L2
def isAsk : PyData → Option (PySem.Str × PySem.Str)
  | .tuple [.str w, .str y, .str z, _] => if w = "ask" then some (y, z) else none
  | _ => none
def asksP (p : PyData) : List (PySem.Str × PySem.Str) := (bodyN p).filterMap isAsk
def AskBy (ps : List PyData) (p : PyData) (q : PySem.Str × PySem.Str) : Prop := q ∈ asksP p ∨ ∃ z g, Reach ps p z ∧ partOf ps (.str z) = some g ∧ q ∈ asksP g
def spAsksOf (CR CN : Addr) : Sp := fun vs H Q E => ∃ (Z : Addr → Prop) (v u : V) (d y : PyData), vs = [v, u] ∧ DA Z H v d ∧ DA Z H u y ∧ (roomJ d = false → ∀ H', Same H H' → E (.ref CR) none H') ∧
  (roomJ d = true → partOf (partsD d) y = none → ShR H u ∧ ∀ dd H', Same H H' → H dd = none → H' dd = some (.xd [("part", u)]) → E (.ref CN) (some dd) H') ∧
  (roomJ d = true → ∀ p, partOf (partsD d) y = some p → ∀ ks bs l H', Same H H' → H' l = some (.tup (bs.map V.ref)) → PsAt H' bs ks → SrtO.Srtd ltS ks → ks.Nodup → (∀ q, q ∈ ks ↔ AskBy (partsD d) p q) → Q (.ref l) H')
theorem ifY {A B : Prop} (h : A) : if true = true then A else B := h
theorem ifN {A B : Prop} (h : B) : if false = true then A else B := by rw [if_neg (by decide)]; exact h
/-- a dict of these pairs -/
def PrD (H : Hp) (D : Addr) (ks : List (PySem.Str × PySem.Str)) : Prop := H D = some (.dT (ks.map fun q => (pkey q, V.bl true)))
def addQ (ks : List (PySem.Str × PySem.Str)) (z : PySem.Str × PySem.Str) : List (PySem.Str × PySem.Str) := if z ∈ ks then ks else ks ++ [z]
theorem pkey_inj {a b : PySem.Str × PySem.Str} (h : pkey a = pkey b) : a = b := by
  obtain ⟨a1, a2⟩ := a
  obtain ⟨b1, b2⟩ := b
  injection h with h1 h2
  injection h1 with h1
  injection h2 with h2 _
  injection h2 with h2
  have h1 : a1 = b1 := h1
  have h2 : a2 = b2 := h2
  rw [h1, h2]
theorem put_addQ (z : PySem.Str × PySem.Str) (ks : List (PySem.Str × PySem.Str)) : putK (ks.map fun q => (pkey q, V.bl true)) (pkey z) (V.bl true) = (addQ ks z).map fun q => (pkey q, V.bl true) := by
  have key : ∀ k : PySem.Str × PySem.Str, (pkey k = pkey z) ↔ k = z := fun k => ⟨pkey_inj, fun e => by rw [e]⟩
  unfold addQ putK
  by_cases h : z ∈ ks
  · rw [if_pos h, if_pos (by
      rw [List.any_map, List.any_eq_true]
      exact ⟨z, h, by simp⟩), List.map_map]
    refine List.map_congr_left fun k hk => ?_
    show (if _ then _ else _) = _
    split
    · rename_i e
      have e : pkey k = pkey z := by simpa using e
      rw [pkey_inj e]
    · rfl
  · rw [if_neg h, if_neg (by
      rw [List.any_map, List.any_eq_true]
      rintro ⟨k, hk, e⟩
      have e : pkey k = pkey z := by simpa using e
      exact h (by rw [← pkey_inj e]; exact hk)), List.map_append]
    rfl
theorem addQ_mem {ks : List (PySem.Str × PySem.Str)} {z x : PySem.Str × PySem.Str} : x ∈ addQ ks z ↔ x ∈ ks ∨ x = z := by
  unfold addQ
  split
  · rename_i h
    exact ⟨.inl, fun q => q.elim id fun e => by rw [e]; exact h⟩
  · rw [List.mem_append, List.mem_singleton]
theorem addQ_nodup {ks : List (PySem.Str × PySem.Str)} {z : PySem.Str × PySem.Str} (h : ks.Nodup) : (addQ ks z).Nodup := by
  unfold addQ
  split
  · exact h
  · rename_i n
    exact List.nodup_append.mpr ⟨h, List.nodup_cons.mpr ⟨List.not_mem_nil, List.nodup_nil⟩, fun x hx y hy e => n (by rw [← List.mem_singleton.mp hy, ← e]; exact hx)⟩
theorem addQ_len (ks : List (PySem.Str × PySem.Str)) (z : PySem.Str × PySem.Str) : (addQ ks z).length ≤ ks.length + 1 := by
  unfold addQ
  split
  · exact Nat.le_succ _
  · rw [List.length_append]; exact Nat.le_refl _
theorem PsAt.same {H H' : Hp} {bs : List Addr} {ys : List (PySem.Str × PySem.Str)} (h : PsAt H bs ys) (s : Same H H') : PsAt H' bs ys := by
  unfold PsAt at h ⊢
  induction h with
  | nil => exact .nil
  | cons a _ ih => exact .cons (s _ _ a) ih
def bdD (p : PyData) : PyData := (itemsD p).getLastD .none
theorem bdD_snoc (pre : List PyData) (b : PyData) : bdD (.tuple (pre ++ [b])) = b := by
  show (pre ++ [b]).getLastD PyData.none = b
  rw [List.getLastD_eq_getLast?, List.getLast?_concat]
  rfl
theorem PtOk.bdD {fs : List PyData} {k : Nat} {p : PyData} (h : PtOk fs k p) : bdD p = .tuple (bodyD p) := by
  obtain ⟨pre, body, rfl⟩ := h.sh
  rw [bdD_snoc, bodyD_snoc]
theorem isAsk_ask (y z : PySem.Str) (a : PyData) : isAsk (.tuple [.str "ask", .str y, .str z, a]) = some (y, z) := by
  show (if ("ask" : PySem.Str) = "ask" then some (y, z) else none) = some (y, z)
  rw [if_pos rfl]
theorem isAsk_not {w : PySem.Str} {r : List PyData} (h : w ≠ "ask") : isAsk (.tuple (.str w :: r)) = none := by
  unfold isAsk
  split
  · rename_i w1 y z a e
    injection e with e
    injection e with e1 e2
    injection e1 with e1
    subst e1
    rw [if_neg h]
  · rfl
theorem askBy_of {fs ds gs : List PyData} {p : PyData} {ks : List PySem.Str} (un : ((fs ++ ds).map nameB).Nodup) (hg : ∀ g ∈ gs, g ∈ fs) (hn : gs.map nameB = ks) (hr : ∀ y, y ∈ ks ↔ Reach (fs ++ ds) p y) (q : PySem.Str × PySem.Str) : (∃ g ∈ p :: gs, q ∈ asksP g) ↔ AskBy (fs ++ ds) p q := by
  have pm : ∀ g ∈ gs, partOf (fs ++ ds) (.str (nameB g)) = some g := fun g m => partOf_mem un (List.mem_append_left ds (hg g m))
  constructor
  · rintro ⟨g, m, h⟩
    rcases List.mem_cons.mp m with rfl | m
    · exact .inl h
    · exact .inr ⟨nameB g, g, (hr _).mp (by rw [← hn]; exact List.mem_map.mpr ⟨g, m, rfl⟩), pm g m, h⟩
  · rintro (h | ⟨z, g, r, e, h⟩)
    · exact ⟨p, List.mem_cons_self, h⟩
    · have m := (hr z).mpr r
      rw [← hn] at m
      obtain ⟨g', m', rfl⟩ := List.mem_map.mp m
      rw [pm g' m'] at e
      injection e with e
      exact ⟨g', List.mem_cons_of_mem _ m', by rw [e]; exact h⟩
theorem RmAt.here {Z : Addr → Prop} {H : Hp} {v : V} {z : PySem.Str} {i b : PyData} {fs ds : List PyData} (h : RmAt Z H v z i b fs ds) : RmAt (fun q => Z q ∧ H q ≠ none) H v z i b fs ds := ⟨h.da.here, h.af, h.ad, h.lf, h.ld, h.l1, h.un⟩
theorem fn_short {Z : Addr → Prop} {H : Hp} {v : V} {z : PySem.Str} {i b : PyData} {fs ds : List PyData} (h : RmAt Z H v z i b fs ds) {g : PyData} (m : g ∈ fs) : (nameB g).length ≤ 1000 := by
  obtain ⟨a, xs, rfl, ha, hs⟩ := h.da.tupE
  obtain ⟨v0, v1, v2, v3, v4, rfl, h0, h1, h2, h3, h4⟩ := hs.five
  obtain ⟨fa, fxs, rfl, hfa, hfs⟩ := h3.tupE
  obtain ⟨j, hj⟩ := List.mem_iff_getElem?.mp m
  have jl : j < fxs.length := by rw [hfs.len]; exact (List.getElem?_eq_some_iff.mp hj).1
  obtain ⟨v, hv⟩ : ∃ v, fxs[j]? = some v := ⟨_, List.getElem?_eq_getElem jl⟩
  obtain ⟨x, hx, hd⟩ := hfs.get hv
  rw [hj] at hx
  injection hx with hx
  subst hx
  obtain ⟨z1, es, rfl⟩ := funHJ_fst g (List.all_eq_true.mp h.af g m)
  obtain ⟨a1, ys, rfl, ha1, hys⟩ := hd.tupE
  obtain ⟨u0, us, rfl, g0, g1⟩ := hys.consE
  cases g0 with
  | str _ hz => exact hz
theorem DA.keptT {Z : Addr → Prop} {H H' : Hp} {D : Addr} {kv : List (List Key × V)} {v : V} {d : PyData} (h : DA Z H v d) (c : Kept [D] H H') (hD : H D = some (.dT kv)) : DA Z H' v d :=
  h.ext (fun q xs e => c q _ e fun m => by rw [List.mem_singleton.mp m, hD] at e; cases e) fun q xs _ e => c q _ e fun m => by rw [List.mem_singleton.mp m, hD] at e; cases e
theorem DAs.keptT {Z : Addr → Prop} {H H' : Hp} {D : Addr} {kv : List (List Key × V)} {v : List V} {d : List PyData} (h : DAs Z H v d) (c : Kept [D] H H') (hD : H D = some (.dT kv)) : DAs Z H' v d :=
  h.ext (fun q xs e => c q _ e fun m => by rw [List.mem_singleton.mp m, hD] at e; cases e) fun q xs _ e => c q _ e fun m => by rw [List.mem_singleton.mp m, hD] at e; cases e
section
variable {P : Program} {w : World} {K : PySem.W.Frag} {mg : PySem.Str → Option Value} {base : Heap} {CR CN : Addr}
abbrev nAO : List PySem.Str := ["source", "part", "told", "bodies", "asked", "name", "body", "node"]
theorem sc_asks_of : FnScope nAO ["source", "part"] (defScope s_asks_of) := ⟨rfl, rfl, rfl, by decide +kernel, rfl, by decide +kernel, by decide +kernel⟩
theorem ok_asks_of {f fR fN : Addr} {fd fdR fdN : FuncData} (F : Fun K "asks_of" "asks_of" s_asks_of f fd) (T : Txt K mg) (FR : FnOk P w K mg base (L2.CX P w) 19 fR fdR ["source"] (spNeedRoom CR)) (mR : mg "need_room" = some (.ref fR)) (kR : PySem.W.keepIn K (.ref fR) = true) (bR : Binds K fdR ["source"] [])
    (FN : FnOk P w K mg base (L2.CX P w) 3 fN fdN ["source", "name"] (spNeedPart CN)) (mN : mg "need_part" = some (.ref fN)) (kN : PySem.W.keepIn K (.ref fN) = true) (bN : Binds K fdN ["source", "name"] [])
    (DP : DefF P w K mg base CX0 2 "part_called" ["source", "name"] spPartC) (DN : DefF P w K mg base CX0 14 "nodes_in" ["body"] (spNodes 12)) (DR : DefF P w K mg base CX0 21 "run_names" ["source", "part"] (fun vs H Q E => ∃ j, j ≤ 6 ∧ spRunN j vs H Q E)) :
    FnOk P w K mg base (L2.CX P w) 22 f fd ["source", "part"] (spAsksOf CR CN) := by
  refine F.okX sc_asks_of (fun vs H Q E h => ?_) (fun cdv A outer s H vs Q E hr h => ?_)
  · obtain ⟨Z, v, u, d, y, rfl, _⟩ := h
    rfl
  · obtain ⟨Z, v, u, d, y, rfl, hv, hu, k0, k1, k2⟩ := h
    have nd0 := sc_asks_of.nd
    have hr19 : Room 19 _ := hr.mono (by decide)
    have hr14 : Room 14 _ := hr.mono (by decide)
    have hr3 : Room 3 _ := hr.mono (by decide)
    have hr2 : Room 2 _ := hr.mono (by decide)
    have hu0 := Nat.lt_of_le_of_lt (Nat.le_add_right _ _) (Room_u65 hr)
    refine ⟨_, pss_cons (ps_expr (pe_callS FR hr19 rfl mR kR bR (fun σ => L2.passAt (takes_of rfl rfl rfl rfl) σ) (pa_cons (pv 0) pa_nil)))
      (pss_cons (ps_set (i := 2) nd0 rfl (Or.inl rfl) (pe_callS FN hr3 rfl mN kN bN (fun σ => L2.passAt (takes_of rfl rfl rfl rfl) σ) (pa_cons (pv 0) (pa_cons (pv 1) pa_nil))))
      (pss_cons (ps_set (i := 3) nd0 rfl (Or.inl rfl) (pe_op op_cat (pe_lst (pa_cons (pe_ix ix_tup (pv 2) (pe_un un_neg pe_int) (fun _ _ => rfl)) pa_nil))
        (pe_lc (own := [("name", 5)]) (g := gName 5) (tt := tYes) (te := tOp (rIxT K) (tCall spPartC [] E0 (tCons (tVar 0) (tCons (tVar 5) tNil))) (tUn (rU fun i => .int (-i)) (tC (.int 1)))) rfl nd0 (pi_keys (pe_frz (pe_cD DR hr rfl pass0 (pa_cons (pv 0) (pa_cons (pv 2) pa_nil)))))
          (blkOk_by (own := [("name", 5)]) (N := nAO) (sc := defScope s_asks_of) (by decide +kernel)) (fun _ _ _ _ _ => pg_name (i := 5) nd0 rfl (Or.inl rfl)) (fun _ _ _ _ _ => pts_nil)
          (fun _ _ _ _ _ => pe_ix ix_tup (pe_cD DP hr2 rfl pass0 (pa_cons (pv 0) (pa_cons (pv 5) pa_nil))) (pe_un un_neg pe_int) (fun _ _ => rfl)))))
      (pss_cons (ps_setDm2 (i := 4) (own := [("body", 6), ("node", 7)]) (vs1 := [7]) (g := gName 6) (g1 := gName 7) (tt := tYes) (tk := tTup (tCons (tOp (rIxT K) (tVar 7) (tC (.int 1))) (tCons (tOp (rIxT K) (tVar 7) (tC (.int 2))) tNil))) (wi1 := iList K (tCall (spNodes 12) [] E0 (tCons (tVar 6) tNil))) (tt1 := tTest (tOp rEq (tOp (rIxT K) (tVar 7) (tC (.int 0))) (tC (.str "ask")))) rfl nd0 hu0 fresh_t rfl rfl rfl (pi_list (pv 3))
          (blkOk_by (own := [("body", 6), ("node", 7)]) (N := nAO) (sc := defScope s_asks_of) (by decide +kernel)) (by decide) (fun _ _ _ _ _ => pg_name (i := 6) nd0 rfl (Or.inl rfl)) (fun _ _ _ _ _ => pts_nil)
          (fun _ _ _ _ _ => pi_list (pe_cD DN hr14 rfl pass0 (pa_cons (pv 6) pa_nil))) (fun _ _ _ _ _ => pg_name (i := 7) nd0 rfl (Or.inl rfl)) (fun _ _ _ _ _ => pts_one (pt_cmpR op_eq (pe_ix ix_tup (pv 7) pe_int (fun _ _ => rfl)) pe_str (nomark _)))
          (fun _ _ _ _ _ => pe_tup (pa_cons (pe_ix ix_tup (pv 7) pe_int (fun _ _ => rfl)) (pa_cons (pe_ix ix_tup (pv 7) pe_int (fun _ _ => rfl)) pa_nil))) (fun _ _ _ _ _ => pe_bl))
      (pss_one (ps_ret (pe_callTy call_tuple_of (by rfl) T.nTuple (by decide +kernel) (pa_cons (pe_callB (cr_sortedDT rfl) (by rfl) T.nSorted (by decide +kernel) (pa_cons (pv 4) pa_nil)) pa_nil))))))), ?_⟩
    refine ⟨_, rfl, Z, v, d, rfl, hv, fun j H1 s1 => ?_, fun j H1 s1 => k0 j H1 s1⟩
    obtain ⟨z, i, b, fs, ds, rfl, hR, jb, ji⟩ := roomJ_at hv j
    have ok := bodies_ok hR.af hR.ad jb
    have ep : partsD (.tuple [.str z, i, b, .tuple fs, .tuple ds]) = fs ++ ds := rfl
    rw [ep] at k1 k2
    refine ⟨_, rfl, _, rfl, Z, v, u, z, i, b, y, fs, ds, rfl, hR.same s1, hu.same s1, fun e => ?_, fun p x H2 s2 e hx => ?_⟩
    · obtain ⟨sh, ke⟩ := k1 j e
      exact ⟨sh.same s1, fun dd H2 s2 nd hd => ke dd H2 (s1.trans s2) (s1.free nd) hd⟩
    obtain ⟨j0, hj0, pt⟩ := part_pt ok hR.lf (partOf_in e)
    have un := hR.un
    have sL := sizeLine_eq
    have s02 := s1.trans s2
    obtain ⟨Z2, hR2, hx2, hZ2⟩ : ∃ Z2 : Addr → Prop, RmAt Z2 H2 v z i b fs ds ∧ DA Z2 H2 x p ∧ ∀ q, Z2 q → H2 q ≠ none := ⟨_, (hR.same s02).here, hx.here, fun q h => h.2⟩
    obtain ⟨pre, body, rfl⟩ := pt.sh
    obtain ⟨pa, pxs, rfl, hpa, hps⟩ := hx2.tupE
    obtain ⟨vpre, vb, rfl, hpre, hvb⟩ := DAs.snoc pre hps
    obtain ⟨pp, hpp⟩ : ∃ pp, pp = PyData.tuple (pre ++ [.tuple body]) := ⟨_, rfl⟩
    have hvb : DA Z2 H2 vb (bdD pp) := by rw [hpp, bdD_snoc]; exact hvb
    rw [← hpp] at hx2 pt e
    clear hps hpre
    refine ⟨_, rfl, _, rfl, pa, _, -1, _, rfl, rfl, SqT.of hpa, atI_last vpre _, (by show 1 ≤ sizeLine; decide), fun L1 nL1 => ?_⟩
    have sL1 := sadd (o := .lst [vb]) (Same.refl H2) nL1
    refine ⟨_, rfl, _, rfl, j0, hj0, Z2, v, .ref pa, z, i, b, pp, fs, ds, rfl, hR2.same sL1, ok, hx2.same sL1, pt, fun D2 ks H3 s13 nD2 hD2 nk iff l6 => ?_⟩
    refine ⟨D2, _, rfl, hD2, trivial, fun od => ⟨D2, od, rfl, .inl ⟨_, upd_same, ?_⟩⟩⟩
    have hL1 : H3 L1 = some (.lst [vb]) := s13 _ _ upd_same
    have s3 : Same (upd H2 L1 (.lst [vb])) (upd H3 D2 (.frz od (.dK (ks.map fun k => (Sum.inr k, V.bl true))))) := Same.updL s13 nD2
    have hf3 : upd H3 D2 (.frz od (.dK (ks.map fun k => (Sum.inr k, V.bl true)))) D2 = some (.frz od (.dK (ks.map fun k => (Sum.inr k, V.bl true)))) := upd_same
    have s23 := sL1.trans s3
    have hL3 := s3 L1 _ upd_same
    generalize upd H3 D2 (.frz od (.dK (ks.map fun k => (Sum.inr k, V.bl true)))) = H4 at s3 hf3 s23 hL3 ⊢
    intro LL nLL
    have n2 := s23.free nLL
    have nLL1 : LL ≠ L1 := fun e => by rw [e, hL3] at nLL; cases nLL
    have nLD : LL ≠ D2 := fun e => by rw [e, hf3] at nLL; cases nLL
    have hZL : ¬ Z2 LL := fun h => hZ2 LL h n2
    refine lc_it (walk_keys (d := D2) (o := od) (kvs := ks.map fun k => (Sum.inr k, V.bl true))) (fun j H' => Same H2 H' ∧ H' D2 = some (.frz od (.dK (ks.map fun k => (Sum.inr k, V.bl true)))) ∧ H' L1 = some (.lst [vb]) ∧ ∃ acc gs, H' LL = some (.lst acc) ∧ DAs Z2 H' acc (gs.map bdD) ∧ gs.map nameB = ks.take j ∧ ∀ g ∈ gs, g ∈ fs)
      ⟨Same.updL s23 n2, (upd_ne nLD.symm).trans hf3, (upd_ne nLL1.symm).trans hL3, [], [], upd_same, .nil, rfl, fun g m => absurd m List.not_mem_nil⟩ (fun j H' _ h => h.2.1) ?turn ?done
    case turn =>
      rintro j zv H5 H6 hj ⟨s5, hf5, hl5, acc, gs, hLL, hd5, en, hg⟩ ⟨rfl, kz, v1, hk, rfl⟩
      rw [List.getElem?_map] at hk
      obtain ⟨z1, hz1, ez⟩ := Option.map_eq_some_iff.mp hk
      cases ez
      have mz : z1 ∈ fs.map nameB := reach_fn un ok ((iff z1).mp (List.mem_of_getElem? hz1)) pt
      obtain ⟨g, mg1, rfl⟩ := List.mem_map.mp mz
      have hq0 := partOf_mem un (List.mem_append_left ds mg1)
      obtain ⟨j1, hj1⟩ := List.mem_iff_getElem?.mp mg1
      have ptg := ok.fn j1 g hj1
      refine ⟨rfl, ?_⟩
      unfold tYes
      dsimp only []
      rw [if_pos rfl]
      refine ⟨_, rfl, _, rfl, Z2, v, .str (nameB g), z, i, b, .str (nameB g), fs, ds, rfl, hR2.same s5, .str _ (fn_short hR mg1), (fun e => by rw [hq0] at e; cases e), fun p1 x1 H7 s57 e1 hx7 => ?_⟩
      rw [hq0] at e1
      injection e1 with e1
      subst e1
      obtain ⟨pre1, body1, eg⟩ := ptg.sh
      rw [eg] at hx7
      obtain ⟨ga, gxs, rfl, hga, hgs⟩ := hx7.tupE
      obtain ⟨vpre1, vb1, rfl, hpre1, hvb1⟩ := DAs.snoc pre1 hgs
      have hvb1 : DA Z2 H7 vb1 (bdD g) := by rw [eg, bdD_snoc]; exact hvb1
      have hLL7 := s57 _ _ hLL
      have la : acc.length ≤ 6 := by
        have q1 := hd5.len
        have q2 := congrArg List.length en
        rw [List.length_map] at q1 q2
        rw [List.length_take] at q2
        omega
      refine ⟨_, rfl, ga, _, -1, _, rfl, rfl, SqT.of hga, atI_last vpre1 _, acc, hLL7, by omega, Same.updL (s5.trans s57) n2, (upd_ne nLD.symm).trans (s57 _ _ hf5), (upd_ne nLL1.symm).trans (s57 _ _ hl5), acc ++ [vb1], gs ++ [g], upd_same, ?_, ?_, ?_⟩
      · rw [List.map_append]
        exact (((hd5.same s57).app (.cons hvb1 .nil)).updL hLL7 hZL)
      · rw [List.map_append, en, List.take_add_one, hz1]
        rfl
      · intro g' m
        rcases List.mem_append.mp m with m | m
        · exact hg g' m
        · rw [List.mem_singleton.mp m]; exact mg1
    case done =>
      rintro H5 ⟨s5, hf5, hl5, acc, gs, hLL, hd5, en, hg⟩
      rw [List.length_map, List.take_length] at en
      have lg : gs.length ≤ 6 := by rw [← List.length_map (f := nameB), en]; exact l6
      have la : acc.length = gs.length := by rw [hd5.len, List.length_map]
      refine ⟨L1, LL, [vb], acc, rfl, rfl, hl5, hLL, by rw [List.length_singleton]; omega, fun L3 nL3 => ?_⟩
      have hq6 : DAs Z2 H5 ([vb] ++ acc) ((pp :: gs).map bdD) := .cons (hvb.same s5) hd5
      have s6 := s5.trans (sadd (o := .lst ([vb] ++ acc)) (Same.refl H5) nL3)
      have hq6 := hq6.same (sadd (o := .lst ([vb] ++ acc)) (Same.refl H5) nL3)
      have hl3 : upd H5 L3 (.lst ([vb] ++ acc)) L3 = some (.lst ([vb] ++ acc)) := upd_same
      have pts : ∀ g ∈ pp :: gs, ∃ k, PtOk fs k g := fun g m => by
        rcases List.mem_cons.mp m with rfl | m
        · exact ⟨_, pt⟩
        · obtain ⟨j1, hj1⟩ := List.mem_iff_getElem?.mp (hg g m)
          exact ⟨j1, ok.fn j1 g hj1⟩
      have ask := askBy_of (p := pp) un hg en iff
      generalize upd H5 L3 (.lst ([vb] ++ acc)) = H6 at s6 hq6 hl3 ⊢
      have lq : ([vb] ++ acc).length = (pp :: gs).length := by rw [hq6.len, List.length_map]
      have l7 : (pp :: gs).length ≤ 7 := by rw [List.length_cons]; omega
      obtain ⟨qs, hqs⟩ : ∃ qs, qs = pp :: gs := ⟨_, rfl⟩
      obtain ⟨ls, hls⟩ : ∃ ls, ls = [vb] ++ acc := ⟨_, rfl⟩
      rw [← hqs] at hq6 pts lq l7
      rw [← hls] at hq6 lq hl3
      refine ⟨_, rfl, L3, rfl, ⟨_, SqL.of hl3⟩, fun D nD => ?_⟩
      refine dm_it (walk_list (xs := ls)) (fun i H' => Same H6 H' ∧ ∃ ks, PrD H' D ks ∧ ks.Nodup ∧ ks.length ≤ i * 200 ∧ ∀ q, q ∈ ks ↔ ∃ g ∈ qs.take i, q ∈ asksP g) ⟨Same.updL (Same.refl H6) nD, [], upd_same, List.nodup_nil, Nat.zero_le _, fun q => ⟨fun m => absurd m List.not_mem_nil, fun ⟨g, m, _⟩ => absurd m List.not_mem_nil⟩⟩ (fun i H' _ h => SqL.of (h.1 _ _ hl3)) ?turn1 ?done1
      case turn1 =>
        rintro i x H7 H8 hi ⟨s7, k7, hD7, nk7, lk7, iff7⟩ ⟨rfl, hx⟩
        obtain ⟨bd, hbd, hda⟩ := (hq6.same s7).get hx
        rw [List.getElem?_map] at hbd
        obtain ⟨g, hgi, rfl⟩ := Option.map_eq_some_iff.mp hbd
        obtain ⟨kg, ptg⟩ := pts g (List.mem_of_getElem? hgi)
        rw [ptg.bdD] at hda
        obtain ⟨ba, bxs, rfl, hba, hbs⟩ := hda.tupE
        have i7 : i ≤ 6 := by
          have := (List.getElem?_eq_some_iff.mp hgi).1
          omega
        have hfw : (nodesIn 12 (bodyD g)).length ≤ 200 := ptg.fw
        refine ⟨rfl, ?_⟩
        unfold tYes
        dsimp only []
        rw [if_pos rfl]
        refine ⟨_, rfl, Z2, Rk fs kg, ba, bxs, bodyD g, rfl, .inl hba, hbs, ptg.nd, by omega, fun l ns H9 s79 nl hl dn => ?_⟩
        refine ⟨l, rfl, ⟨_, SqL.of hl⟩, ?_⟩
        have ln := dn.len
        obtain ⟨nodes, hnodes⟩ : ∃ nodes, nodes = nodesIn 12 (bodyD g) := ⟨_, rfl⟩
        rw [← hnodes] at dn ln hfw
        have hD9 : PrD H9 D k7 := s79 _ _ hD7
        have eg : asksP g = nodes.filterMap isAsk := by rw [hnodes]; rfl
        refine em2_it (walk_list (xs := ns)) (fun j H' => Same H6 H' ∧ Kept [D] H9 H' ∧ ∃ ks, PrD H' D ks ∧ ks.Nodup ∧ ks.length ≤ i * 200 + j ∧ ∀ q, q ∈ ks ↔ (∃ g ∈ qs.take i, q ∈ asksP g) ∨ q ∈ (nodes.take j).filterMap isAsk) ⟨s7.trans s79, Kept.refl, k7, hD9, nk7, lk7, fun q => by rw [iff7 q]; exact ⟨.inl, fun h => h.elim id fun m => absurd m List.not_mem_nil⟩⟩
          (fun j H' _ h => SqL.of (h.2.1 l _ hl fun m => by rw [List.mem_singleton.mp m, hD9] at hl; cases hl)) ?turn2 ?done2
        case turn2 =>
          rintro j x H10 H11 hj ⟨s10, c10, k8, hD10, nk8, lk8, iff8⟩ ⟨rfl, hx⟩
          obtain ⟨nd, hnd, hdx⟩ := dn.get hx
          have hx2 := hdx.keptT c10 hD9
          have fx := nodes_form 12 _ ptg.nd nd (by rw [← hnodes]; exact List.mem_of_getElem? hnd)
          obtain ⟨w1, r, rfl, fi⟩ := fx.inv
          have et : nodes.take (j + 1) = nodes.take j ++ [.tuple (.str w1 :: r)] := by rw [List.take_add_one, hnd]; rfl
          obtain ⟨a1, ys, rfl, ha1, hys⟩ := hx2.tupE
          obtain ⟨v0, vs, rfl, g0, gs⟩ := hys.consE
          obtain rfl : v0 = .str w1 := by cases g0; rfl
          have jl := (List.getElem?_eq_some_iff.mp hnd).1
          refine ⟨rfl, ?_⟩
          refine ⟨_, rfl, a1, _, 0, _, rfl, rfl, SqT.of ha1, atI_nat (j := 0) rfl, rfl, _, rfl, ?_⟩
          by_cases ew : w1 = "ask"
          · subst ew
            obtain ⟨z1, z2, a, rfl, _⟩ := fi.ask rfl
            obtain ⟨u1, us1, rfl, g1, gs1⟩ := gs.consE
            obtain rfl : u1 = .str z1 := by cases g1; rfl
            obtain ⟨u2, us2, rfl, g2, gs2⟩ := gs1.consE
            obtain rfl : u2 = .str z2 := by cases g2; rfl
            try dsimp only []
            rw [if_pos (by simp)]
            refine ⟨_, rfl, a1, _, 1, _, rfl, rfl, SqT.of ha1, atI_nat (j := 1) rfl, _, rfl, a1, _, 2, _, rfl, rfl, SqT.of ha1, atI_nat (j := 2) rfl, (by show 2 ≤ sizeLine; decide), fun b nb => ?_⟩
            have ebD := ne_of_none hD10 nb
            have lk9 : (k8.map fun q => (pkey q, V.bl true)).length < sizeLine := by rw [List.length_map]; omega
            have hDb : PrD (upd H11 b (.tup [.str z1, .str z2])) D k8 := (upd_ne ebD).trans hD10
            refine ⟨_, DPut.t (k := pkey (z1, z2)) hDb upd_same lk9, ?_⟩
            rw [put_addQ]
            have sb := sadd (o := .tup [.str z1, .str z2]) (Same.refl H11) nb
            have n6 := nD
            refine ⟨Same.updL (s10.trans sb) nD, (c10.same sb).upd (List.mem_singleton.mpr rfl), addQ k8 (z1, z2), upd_same, addQ_nodup nk8, ?_, fun q => ?_⟩
            · have := addQ_len k8 (z1, z2)
              omega
            · rw [addQ_mem, iff8 q, et, List.filterMap_append, List.mem_append, or_assoc]
              show _ ↔ _ ∨ _ ∨ q ∈ List.filterMap isAsk [_]
              rw [List.filterMap_cons, isAsk_ask]
              simp
          · dsimp only []
            rw [if_neg (by simpa using ew)]
            refine ⟨s10, c10, k8, hD10, nk8, by omega, fun q => ?_⟩
            rw [iff8 q, et, List.filterMap_append, List.filterMap_cons, isAsk_not ew]
            simp
        case done2 =>
          rintro H10 ⟨s10, c10, k8, hD10, nk8, lk8, iff8⟩
          rw [ln, List.take_length] at iff8
          refine ⟨s10, k8, hD10, nk8, by omega, fun q => ?_⟩
          rw [iff8 q, ← eg, List.take_add_one, hgi]
          constructor
          · rintro (⟨g1, m, h⟩ | h)
            · exact ⟨g1, List.mem_append_left _ m, h⟩
            · exact ⟨g, List.mem_append_right _ (List.mem_singleton.mpr rfl), h⟩
          · rintro ⟨g1, m, h⟩
            rcases List.mem_append.mp m with m | m
            · exact .inl ⟨g1, m, h⟩
            · rw [List.mem_singleton.mp m] at h
              exact .inr h
      case done1 =>
        rintro H7 ⟨s7, k7, hD7, nk7, lk7, iff7⟩
        rw [lq, List.take_length, hqs] at iff7
        refine ⟨_, rfl, D, k7, rfl, hD7, by omega, fun ys bs p pm so np hps => ?_⟩
        refine ⟨p, _, rfl, .inl ⟨SqL.of upd_same, fun l nl => ?_⟩⟩
        have sq := sadd (o := .lst (bs.map V.ref)) (Same.refl H7) np
        have sr := sq.trans (sadd (o := .tup (bs.map V.ref)) (Same.refl _) nl)
        refine k2 ‹_› pp e ys bs l _ (s02.trans (s6.trans (s7.trans sr))) upd_same (hps.same sr) so (pm.nodup_iff.mpr nk7) fun q => by rw [pm.mem_iff, iff7 q, ask q]
end
end OH
end
section
set_option Elab.async false
set_option linter.all false
set_option maxRecDepth 100000
set_option maxHeartbeats 4000000
/-! sorted(set(x)), x a list of pairs of strings. -/
namespace OH
open PySem PySem.Spec PyProof.Rows L2 SrtO
abbrev prS (q : Str × Str) : List Str := [q.1, q.2]
theorem prS_inj {a b : Str × Str} (h : prS a = prS b) : a = b := by
  obtain ⟨a1, a2⟩ := a
  obtain ⟨b1, b2⟩ := b
  injection h with h1 h2
  injection h2 with h2 _
  have h1 : a1 = b1 := h1
  have h2 : a2 = b2 := h2
  rw [h1, h2]
theorem ps_ks {H : Hp} {bs : List Addr} {qs : List (Str × Str)} (h : PsAt H bs qs) : ∃ ks : List (Addr × List Str), (ks.map fun p => V.ref p.1) = bs.map V.ref ∧ ks.map (·.2) = qs.map prS ∧ ∀ p ∈ ks, ∃ q, q ∈ qs ∧ p.2 = prS q ∧ H p.1 = some (.tup [.str q.1, .str q.2]) := by
  unfold PsAt at h
  induction h with
  | nil => exact ⟨[], rfl, rfl, fun p m => absurd m List.not_mem_nil⟩
  | @cons b q bs qs a _ ih =>
    obtain ⟨ks, e1, e2, e3⟩ := ih
    refine ⟨(b, prS q) :: ks, by rw [List.map_cons, e1]; rfl, by rw [List.map_cons, e2]; rfl, fun p m => ?_⟩
    rcases List.mem_cons.mp m with e | m
    · rw [e]
      exact ⟨q, List.mem_cons_self, rfl, a⟩
    · obtain ⟨q', h1, h2⟩ := e3 p m
      exact ⟨q', List.mem_cons_of_mem _ h1, h2⟩
def tSortSetP (K : PySem.W.Frag) (ta : TE) : TE := fun σ H Q => ta σ H fun x H1 => ∃ (l : Addr) (bs : List Addr) (qs D : List (Str × Str)), x = .ref l ∧ SqL K H1 l (bs.map V.ref) ∧ PsAt H1 bs qs ∧ D.length ≤ 60 ∧ (∀ q ∈ qs, q ∈ D) ∧
  ∀ (ys : List (Str × Str)) (cs : List Addr) (p : Addr), Srtd ltS ys → ys.Nodup → (∀ q, q ∈ ys ↔ q ∈ qs) → H1 p = none → PsAt H1 cs ys → Q (.ref p) (upd H1 p (.lst (cs.map V.ref)))
theorem pe_sortSetP {X : Cx} {a : Expr} {ta : TE} {p p2 q pos : Pos} (hu : X.A.units + 64 < cLine) (hg : Gl X "sorted") (hm : X.mg "sorted" = none) (hg2 : Gl X "set") (hm2 : X.mg "set" = none) (ha : PE X a ta) (hc : X.calm = true := by rfl)
    (na : starEach [a] X.env = (false, eval a X.env) :: starEach [] X.env := by rfl) : PE X (.Call (.Name "sorted" p) [.Call (.Name "set" p2) [a] [] q] [] pos) (tSortSetP X.K ta) := by
  refine ⟨fun pins s σ H Q I h => ?_⟩
  refine Call_ (ld_blt I hg hm (show bootBuiltins "sorted" = some (.builtin "sorted") by decide +kernel) (PyProof.Rows.callWith_builtin1 (PyProof.Rows.args_cons ?_ rfl) rfl rfl))
  refine Call_ (ld_blt I hg2 hm2 boot_set (PyProof.Rows.callWith_type1 (PyProof.Rows.args_cons (thn (ha.run pins s σ H _ I h) fun v s1 ⟨x, H1, I1, r1, l, bs, qs, D, ex, hq, hps, d60, hD, q1⟩ => PyProof.Rows.args_nil ?_) na) na rfl))
  subst ex
  cases r1
  obtain ⟨ks, k1, k2, k3⟩ := ps_ks hps
  rw [← k1] at hq
  obtain ⟨its, ht, r⟩ : ∃ its : Array Value, s1.heap.IsList l its ∧ Vals (ks.map fun p => V.ref p.1) its.toList := by
    obtain ⟨its, r, pl, hz⟩ := I1.list hq
    exact ⟨its.toArray, pl.isList, by simpa using r⟩
  have hk : ∀ p ∈ ks, SqT X.K H1 p.1 (p.2.map V.str) := fun p m => by
    obtain ⟨q, _, e, hH⟩ := k3 p m
    rw [e]
    exact SqT.of hH
  refine set_of_tstrs (P := X.prog) (w := X.w) ks (I1.ok.hd hc) (.inr ht) (refs_at r) (fun p m => Inv.tstr I1 (hk p m)) (fun L nL sub _ => ?_) (by omega) fun h' tk ⟨L, es, ep, t, B, c⟩ kp => ?_
  · have q := len_sub (ls := D.map prS) nL fun x m => by
      obtain ⟨p, mp, rfl⟩ := List.mem_map.mp m
      obtain ⟨q, mq, e, _⟩ := k3 p (sub p mp)
      rw [e]
      exact List.mem_map.mpr ⟨q, hD q mq, rfl⟩
    rw [List.length_map, List.length_map] at q
    omega
  refine PyProof.Rows.args_nil ?_
  obtain ⟨o, ho, hex, hd⟩ := B.obj
  have I2 : Inv X pins σ H1 { s1 with heap := h', toks := tk } := I1.kept fun b o e => kp b o e
  have sL := sizeLine_eq
  have esz : es.size = L.length := B.es_size (s := { s1 with heap := h', toks := tk })
  have fit : t.fits es.size = true := B.fits (s := { s1 with heap := h', toks := tk })
  have few := B.few
  have hes : es.toList.map (·.2) = L.map fun q => Value.ref q.1 := by rw [B.row, List.map_map]; rfl
  generalize hS : s1.heap.objs.size = S at ho B ⊢
  generalize hs2 : ({ s1 with heap := h', toks := tk } : Shared) = s2 at I2 ⊢
  have hh2 : s2.heap = h' := by rw [← hs2]
  rw [← hh2] at ho B
  clear kp hs2 hh2
  show wpAny _ _ (call (.builtin "sorted") [.ref S]) _ _ s2
  refine Calls.call_function_entry kind_sorted plain_sorted entry_sorted (args_sorted1 _) ?_
  unfold Builtin.«sorted»
  refine wpAny_bind (m := checkCount "sorted" 1 1 _) (wpAny_pure ?_)
  refine wpAny_bind (collect_set (A := X.A.in1) (I2.ok.hd hc) ⟨o, ho, hex.1, hd⟩ fit (by unfold scanBound; omega) B.tab.ris B.led fun s3 vs k3' hz g3 o3 pm => ?_)
  rw [hes] at pm
  have psv : ∀ v ∈ vs, IsPS s2.heap v (keyPS s2.heap v).1 (keyPS s2.heap v).2 ∧ ∃ b, v = .ref b ∧ H1 b = some (.tup [.str (keyPS s2.heap v).1, .str (keyPS s2.heap v).2]) := fun v hv => by
    obtain ⟨pr, hp, rfl⟩ := List.mem_map.mp (pm.mem_iff.mp hv)
    obtain ⟨q, _, _, hH⟩ := k3 pr (c.sub pr hp)
    have ps := ps_of I2 hH
    have e := ps.key
    rw [e]
    exact ⟨ps, pr.1, rfl, hH⟩
  have hkey : (vs.map (keyPS s2.heap)).map prS |>.Perm (L.map (·.2)) := by
    have q := (pm.map (keyPS s2.heap)).map prS
    refine q.trans (List.Perm.of_eq ?_)
    rw [List.map_map, List.map_map]
    refine List.map_congr_left fun pr hp => ?_
    obtain ⟨q, _, e2, hH⟩ := k3 pr (c.sub pr hp)
    have e := (ps_of I2 hH).key
    show prS (keyPS s2.heap (.ref pr.1)) = pr.2
    rw [e, e2]
  have lv : vs.length < 64 := by rw [pm.length_eq, List.length_map]; exact few
  refine wpAny_bind (wpAny_newList ?_ (by omega))
  have hoL : (s3.heap.push (seqObj "list" vs.toArray 0)).get? s3.heap.objs.size = some (seqObj "list" vs.toArray 0) := Heap.get?_push_size _ rfl
  have kp2 : ∀ b u, s2.heap.get? b = some u → (s3.heap.push (seqObj "list" vs.toArray 0)).get? b = some u := fun b u e => Heap.get?_push_of_some _ (k3' b u e)
  refine wpAny_bind (wpAny_holding (wpAny_call_entry slot_list_sort ⟨_, hoL, rfl⟩ entry_list_sort
    (list_sort_ord (swo_ltS (keyPS s2.heap)) (s := { s3 with heap := s3.heap.push (seqObj "list" vs.toArray 0) }) hoL (by omega) (fun h2 => ps_sortable (by omega) (fun v hv => (psv v hv).1.keeps fun b u e _ => kp2 b u e) fun u e => ?_) fun out hs hb => ⟨_, rfl, ?_⟩)
    (args_list_sort _)))
  · have e' := e.symm.trans hoL
    cases e'
    intro c
    exact absurd (Value.type.inj c) (by decide)
  obtain ⟨cc, hcF⟩ := sortedHeap_at (vs := vs) (out := out.toArray) hoL
  obtain ⟨cs, hcs⟩ : ∃ cs : List Addr, out = cs.map Value.ref := by
    have all : ∀ v ∈ out, ∃ b, v = Value.ref b := fun v hv => by
      obtain ⟨_, b, e, _⟩ := psv v (hb.perm.mem_iff.mp hv)
      exact ⟨b, e⟩
    clear hs hb hcF
    induction out with
    | nil => exact ⟨[], rfl⟩
    | cons v vs ih =>
      obtain ⟨b, rfl⟩ := all v List.mem_cons_self
      obtain ⟨bs, e⟩ := ih fun u hu => all u (List.mem_cons_of_mem _ hu)
      exact ⟨b :: bs, by rw [e]; rfl⟩
  have hps2 : PsAt H1 cs (out.map (keyPS s2.heap)) := by
    have all : ∀ b ∈ cs, H1 b = some (.tup [.str (keyPS s2.heap (.ref b)).1, .str (keyPS s2.heap (.ref b)).2]) := fun b hb' => by
      obtain ⟨_, b2, e, hH⟩ := psv (.ref b) (hb.perm.mem_iff.mp (by rw [hcs]; exact List.mem_map.mpr ⟨b, hb', rfl⟩))
      cases e
      exact hH
    rw [hcs, List.map_map]
    clear hcs hs hb hcF
    induction cs with
    | nil => exact Paired.nil
    | cons b bs ih => exact Paired.cons (all b List.mem_cons_self) (ih fun x hx => all x (List.mem_cons_of_mem _ hx))
  have pkeys : ((out.map (keyPS s2.heap)).map prS).Perm (L.map (·.2)) := ((hb.perm.map _).map _).trans hkey
  have hn0 : H1 s3.heap.objs.size = none := I2.hok.fresh hz
  have keep3 : ∀ b u, s2.heap.get? b = some u → (sortedHeap (s3.heap.push (seqObj "list" vs.toArray 0)) s3.heap.objs.size vs out.toArray).get? b = some u := fun b u e => by
    have q := k3' b u e
    have hlt := Heap.lt_size q
    rw [sortedHeap_old (Nat.ne_of_lt hlt) (by rw [size_push']; exact Nat.lt_succ_of_lt hlt)]
    exact Heap.get?_push_of_some _ q
  have hlen : (cs.map V.ref).length ≤ sizeLine := by
    have := hb.perm.length_eq
    rw [hcs, List.length_map] at this
    rw [List.length_map]
    omega
  refine wpAny_pure ⟨_, rfl, .ref s3.heap.objs.size, upd H1 s3.heap.objs.size (.lst (cs.map V.ref)), ?_, rfl, q1 _ cs _ (srtd_map hs) ?_ (fun q => ?_) hn0 hps2⟩
  · have J : Inv X pins σ (upd H1 s3.heap.objs.size (.lst (cs.map V.ref))) { s2 with heap := sortedHeap (s3.heap.push (seqObj "list" vs.toArray 0)) s3.heap.objs.size vs out.toArray, gens := s3.gens, drawn := s3.drawn, toks := s3.toks } :=
      I2.call (ch := []) (Un.laid keep3 hz hn0) (I2.hok.laid keep3 hz ⟨hlen, out, cc, by rw [hcs]; exact refs_map cs, hcF⟩) (by rw [g3]; exact I2.bare) (fun _ z => nomatch z)
    have e : ({ s3 with heap := sortedHeap (s3.heap.push (seqObj "list" vs.toArray 0)) s3.heap.objs.size vs out.toArray } : Shared) = { s2 with heap := sortedHeap (s3.heap.push (seqObj "list" vs.toArray 0)) s3.heap.objs.size vs out.toArray, gens := s3.gens, drawn := s3.drawn, toks := s3.toks } := by
      cases s3
      cases s2
      cases o3
      rfl
    first
      | (rw [e]; exact J)
      | exact e ▸ J
  · have := pkeys.nodup_iff.mpr B.one
    exact nodup_of_map (nodup_of_map (List.Pairwise.map _ (fun _ _ h => h) this))
  · constructor
    · intro m
      have m2 : prS q ∈ L.map (·.2) := pkeys.mem_iff.mp (List.mem_map.mpr ⟨q, m, rfl⟩)
      obtain ⟨pr, hp, e⟩ := List.mem_map.mp m2
      obtain ⟨q', hq', e2, _⟩ := k3 pr (c.sub pr hp)
      rw [prS_inj (e.symm.trans e2)]
      exact hq'
    · intro m
      have m2 : prS q ∈ ks.map (·.2) := by rw [k2]; exact List.mem_map.mpr ⟨q, m, rfl⟩
      obtain ⟨pr, hp, e⟩ := List.mem_map.mp m2
      have m3 := c.all pr hp
      rw [e] at m3
      obtain ⟨q', hq', e2⟩ := List.mem_map.mp (pkeys.mem_iff.mpr m3)
      rw [← prS_inj e2]
      exact hq'
end OH
end
section
set_option Elab.async false
set_option linter.all false
set_option maxRecDepth 100000
set_option maxHeartbeats 8000000
/-! The law's shuffling, of any plain things. -/
namespace OH
open PySem PySem.Spec PyProof.Rows L2
/-- tuples, names, numbers: nothing that changes -/
abbrev NoZ : Addr → Prop := fun _ => False
section
variable {H H' : Hp}
theorem DAs.erase {Z : Addr → Prop} : ∀ {vs : List V} {ds : List PyData}, DAs Z H vs ds → ∀ k, DAs Z H (vs.eraseIdx k) (ds.eraseIdx k)
  | _, _, .nil, k => by cases k <;> exact .nil
  | _, _, .cons a b, 0 => b
  | _, _, .cons a b, k + 1 => .cons a (b.erase k)
theorem DAs.mono {vs : List V} {ds : List PyData} (h : DAs NoZ H vs ds) (k : ∀ q xs, H q = some (.tup xs) → H' q = some (.tup xs)) : DAs NoZ H' vs ds := h.ext k fun _ _ z => z.elim
theorem DA.mono {v : V} {d : PyData} (h : DA NoZ H v d) (k : ∀ q xs, H q = some (.tup xs) → H' q = some (.tup xs)) : DA NoZ H' v d := h.ext k fun _ _ z => z.elim
theorem erase_perm {α : Type} : ∀ (l : List α) (k : Nat) (x : α), l[k]? = some x → (x :: l.eraseIdx k).Perm l
  | [], k, x, h => by cases k <;> cases h
  | y :: l, 0, x, h => by cases h; exact List.Perm.refl _
  | y :: l, k + 1, x, h => ((List.Perm.swap y x _).trans ((erase_perm l k x h).cons y))
theorem fr_tup {st g c : Addr} {n : Nat} (S : SA H st g c n) (F : Fr st g H H') : ∀ q xs, H q = some (.tup xs) → H' q = some (.tup xs) := fun q xs e => by
  obtain ⟨_, ⟨gs, g1, _⟩, _⟩ := id S
  exact F q _ e (S.ne_st e (fun _ z => nomatch z)) (ne_of e g1 (fun z => nomatch z))
/-- all can be laid -/
def Flat (ds : List PyData) : Prop := ∀ d ∈ ds, PyData.canLay0 d = true ∧ PyData.depth d ≤ 60
theorem Flat.erase {ds : List PyData} (h : Flat ds) (k : Nat) : Flat (ds.eraseIdx k) := fun d m => h d (List.mem_of_mem_eraseIdx m)
theorem Flat.shaped {ds : List PyData} (h : Flat ds) : SeqAt.shaped (.list ds) = true := by
  have h1 : PyData.canLayAll0 ds = true := by
    induction ds with
    | nil => rfl
    | cons w ws ih =>
      show (PyData.canLay0 w && PyData.canLayAll0 ws) = true
      rw [ih fun d m => h d (List.mem_cons_of_mem _ m), (h w List.mem_cons_self).1]
      rfl
  have h2 : PyData.depthAll ds ≤ 60 := by
    clear h1
    induction ds with
    | nil => exact Nat.zero_le _
    | cons w ws ih =>
      show max (PyData.depth w) (PyData.depthAll ws) ≤ 60
      exact Nat.max_le.mpr ⟨(h w List.mem_cons_self).2, ih fun d m => h d (List.mem_cons_of_mem _ m)⟩
  show (PyData.canLayAll0 ds && decide (PyData.depthAll ds + 1 ≤ 64)) = true
  rw [h1, decide_eq_true (by omega)]
  rfl
/-- a new list of the same things in another sequence -/
def spShufD : Sp := fun vs H Q _ => ∃ (st g c a : Addr) (n : Nat) (xs : List V) (ds : List PyData), vs = [.ref st, .ref a] ∧ SA H st g c n ∧ n ≤ 800000 ∧ H a = some (.lst xs) ∧ DAs NoZ H xs ds ∧ Flat ds ∧ a ≠ g ∧ xs.length ≤ 1000 ∧
  ∀ (p : Addr) (xs' : List V) (ds' : List PyData) (H' : Hp), H p = none → p ≠ st → p ≠ g → p ≠ c → H' p = some (.lst xs') → DAs NoZ H' xs' ds' → ds'.Perm ds → SA H' st g c (n + xs.length) → Fr st g H H' → Q (.ref p) H'
theorem eqv_nil (ws : List PyData) : PyData.eqv (.list ws) (.list []) = ws.isEmpty := by
  cases ws <;> rfl
end
section
variable {P : Program} {w : World} {K : PySem.W.Frag} {mg : Str → Option Value} {base : Heap}
theorem sc__law_shuffled : FnScope ["state", "some", "left", "found"] ["state", "some"] (defScope s__law_shuffled) := ⟨rfl, rfl, rfl, by decide +kernel, rfl, by decide +kernel, by decide +kernel⟩
theorem ok__law_shuffled {f : Addr} {fd : FuncData} (F : Fun K "_law_shuffled" "_law_shuffled" s__law_shuffled f fd) (T : Txt K mg)
    (DD : DefF P w K mg base CX0 2 "_law_draw" ["state", "room"] spDraw) : FnOk P w K mg base CX0 3 f fd ["state", "some"] spShufD := by
  refine F.ok sc__law_shuffled (fun vs H Q E h => ?_) (fun cdv A outer s H vs Q E hr h => ?_)
  · obtain ⟨st, g, c, a, n, xs, ds, rfl, _⟩ := h
    rfl
  · obtain ⟨st, g, c, a, n, xs, ds, rfl, S, hn, ha, hp, fl, ag, l1, k⟩ := h
    have nd := sc__law_shuffled.nd
    refine ⟨_, pss_cons (ps_par (i := 2) (j := 3) (by rfl) nd rfl rfl (by decide) rfl rfl (pa_cons (pe_callTy call_list_of (by rfl) T.nList (by decide +kernel) (pa_cons (pv 1) pa_nil)) (pa_cons (pe_lst pa_nil) pa_nil)) (by rfl))
      (pss_cons (ps_while PassesOwn.never (pt_cmpR (op_neD hr.units) (pv 2) (pe_lst pa_nil) (nomark _))
        (pss_one (ps_expr (pe_bm PySem.F.plainAttrs_list PySem.F.slot_list_append PySem.F.type_list_append mt_append (pv 3)
          (pa_cons (pe_bm PySem.F.plainAttrs_list PySem.F.slot_list_pop PySem.F.type_list_pop mt_popAt (pv 2) (pa_cons (pe_cD DD hr rfl pass0 (pa_cons (pv 0) (pa_cons (pe_callB call_len_seq (by rfl) T.nLen PySem.boot_len (pa_cons (pv 2) pa_nil)) pa_nil))) pa_nil)) pa_nil)))))
      (pss_one (ps_ret (pv 3)))), ?_⟩
    refine ⟨_, rfl, a, _, rfl, .inl (SqL.of ha), fun L nL => ⟨(by show 0 ≤ sizeLine; decide), fun D nD => ⟨_, _, rfl, ?_⟩⟩⟩
    have s1 := sadd (o := .lst (xs)) (Same.refl H) nL
    have s2 := sadd (o := .lst []) s1 nD
    have nLD : L ≠ D := ne_of_none upd_same nD
    have zL := S.old nL
    have zD := S.old (s1.free nD)
    have hL0 : upd (upd H L (.lst (xs))) D (.lst []) L = some (.lst (xs)) := upd_under nLD
    have hD0 : upd (upd H L (.lst (xs))) D (.lst []) D = some (.lst []) := upd_same
    have D0 : H D = none := s1.free nD
    generalize upd (upd H L (.lst (xs))) D (.lst []) = H1 at s2 hL0 hD0 ⊢
    refine while_by (fun σ H' => ∃ (p1 p2 : List V) (q1 q2 : List PyData), σ = [some (.ref st), some (.ref a), some (.ref L), some (.ref D)] ∧ H' L = some (.lst (p1)) ∧ H' D = some (.lst (p2)) ∧ DAs NoZ H' p1 q1 ∧ DAs NoZ H' p2 q2 ∧
        (q1 ++ q2).Perm ds ∧ Flat q1 ∧ p1.length + p2.length = xs.length ∧ SA H' st g c (n + p2.length) ∧ Fr st g H H')
      (fun _ H' => match H' L with | some (.lst xs) => xs.length | _ => 0) ?h0 ?turn ?mono
    case h0 => exact ⟨xs, [], ds, [], rfl, hL0, hD0, hp.mono (fun q xs e => s2 _ _ e), .nil, by rw [List.append_nil], fl, rfl, S.same s2, Fr.of s2⟩
    case mono =>
      rintro σ H' Q1 Q2 hQ ⟨x, e1, hl, f⟩
      refine ⟨x, e1, hl, fun l nl => ?_⟩
      obtain ⟨d, e, h1, h2, h3, h4, kk, e5, q⟩ := f l nl
      exact ⟨d, e, h1, h2, h3, h4, kk, e5, hQ _ _ q⟩
    case turn =>
      rintro σ H2 ⟨p1, p2, q1, q2, rfl, hL, hD, hp1, hp2, pm, fl1, hlen, S2, F2⟩
      refine ⟨_, rfl, (by show 0 ≤ sizeLine; decide), fun l nl => ?_⟩
      have sl := sadd (o := .lst []) (Same.refl H2) nl
      have hl1 : upd H2 l (.lst []) l = some (.lst []) := upd_same
      have hL3 := sl _ _ hL
      have hD3 := sl _ _ hD
      have hp13 := hp1.mono fun q xs e => sl _ _ e
      have hp23 := hp2.mono fun q xs e => sl _ _ e
      have S3 := S2.same sl
      have F3 := F2.trans (Fr.of sl)
      have eL : (match H2 L with | some (.lst xs) => xs.length | _ => 0) = p1.length := by rw [hL]
      generalize upd H2 l (.lst []) = H3 at sl hl1 hL3 hD3 hp13 hp23 S3 F3 ⊢
      refine ⟨.list q1, .list [], .lst (SqL.of hL3) hp13.dp, .lst (SqL.of hl1) .nil, fl1.shaped, rfl, _, rfl, ?_⟩
      rw [eqv_nil]
      have l11 := hp13.len
      cases q1 with
      | nil =>
        refine iteF ?_
        have e1 : p1 = [] := List.length_eq_zero_iff.mp l11
        subst e1
        have e2 : p2.length = xs.length := by
          have : ([] : List V).length = 0 := rfl
          omega
        refine ⟨_, rfl, k D p2 q2 H3 D0 zD.1 zD.2.1 zD.2.2 hD3 hp23 pm (by rw [← e2]; exact S3) F3⟩
      | cons w q1 =>
        refine iteT ?_
        have pos : 0 < p1.length := by rw [l11]; exact Nat.succ_pos _
        refine ⟨_, rfl, .inl ⟨rfl, _, SqL.of hD3⟩, _, rfl, .inl ⟨rfl, _, SqL.of hL3⟩, ?_⟩
        refine ⟨_, rfl, _, rfl, L, _, rfl, .inl (SqL.of hL3), ?_⟩
        refine ⟨st, g, c, n + p2.length, _, rfl, S3, by omega, by omega, by omega, fun z H4 z0 z1 S4 F4 => ?_⟩
        have hL4 := F4 L _ hL3 zL.1 zL.2.1
        have hD4 := F4 D _ hD3 zD.1 zD.2.1
        have hp14 := hp13.mono (fr_tup S3 F4)
        have hp24 := hp23.mono (fr_tup S3 F4)
        have hz : z.toNat < p1.length := by omega
        obtain ⟨r, hr1⟩ : ∃ r, p1[z.toNat]? = some r := ⟨_, List.getElem?_eq_getElem hz⟩
        obtain ⟨v, hv1, hv2⟩ := hp14.get hr1
        have sx : seqIndex? z (p1).length = some z.toNat := (ixN_seq (by unfold L2.ixN; rw [if_pos z0, if_pos (by omega)])).1
        refine ⟨L, _, z, z.toNat, r, rfl, rfl, hL4, by omega, by omega, sx, hr1, ?_⟩
        have kt : ∀ (o : List V) q xs, H4 q = some (.tup xs) → upd H4 L (.lst o) q = some (.tup xs) := fun o q xs e => (upd_ne (ne_of e hL4 (fun y => nomatch y))).trans e
        refine ⟨D, _, _, rfl, rfl, (upd_ne nLD.symm).trans hD4, (by rw [sizeLine_eq]; omega), ?_⟩
        have kt2 : ∀ (o o2 : List V) q xs, H4 q = some (.tup xs) → upd (upd H4 L (.lst o)) D (.lst o2) q = some (.tup xs) := fun o o2 q xs e => (upd_ne (ne_of e hD4 (fun y => nomatch y))).trans (kt o q xs e)
        have S5 : SA (upd (upd H4 L (.lst (p1.eraseIdx z.toNat))) D (.lst (p2 ++ [r]))) st g c (n + p2.length + 1) := (S4.put zL).put zD
        have el2 : (p1.eraseIdx z.toNat).length = p1.length - 1 := by rw [List.length_eraseIdx, if_pos hz]
        refine ⟨⟨p1.eraseIdx z.toNat, p2 ++ [r], (w :: q1).eraseIdx z.toNat, q2 ++ [v], rfl, (upd_ne nLD).trans upd_same, upd_same, ?_, ?_, ?_, fl1.erase _, ?_, ?_, ?_⟩, ?_⟩
        · exact (hp14.erase _).mono (kt2 _ _)
        · exact (hp24.mono (kt2 _ _)).app (.cons (hv2.mono (kt2 _ _)) .nil)
        · refine List.Perm.trans ?_ pm
          have e1 := erase_perm (w :: q1) z.toNat v hv1
          have e2 : ((w :: q1).eraseIdx z.toNat ++ (q2 ++ [v])).Perm ((w :: q1).eraseIdx z.toNat ++ ([v] ++ q2)) := (List.perm_append_comm).append_left _
          refine e2.trans ?_
          rw [← List.append_assoc]
          exact ((List.perm_append_comm).trans e1).append_right _
        · rw [List.length_append, el2]
          show p1.length - 1 + (p2.length + 1) = _
          omega
        · rw [List.length_append]
          exact S5
        · intro b o e h1 h2
          have e4 := (F3.trans F4) b o e h1 h2
          have nbL : b ≠ L := ne_of_none e nL
          have nbD : b ≠ D := ne_of_none e D0
          exact (upd_ne nbD).trans ((upd_ne nbL).trans e4)
        · show (match upd (upd H4 L (.lst (p1.eraseIdx z.toNat))) D (.lst (p2 ++ [r])) L with | some (.lst xs) => xs.length | _ => 0) < (match H2 L with | some (.lst xs) => xs.length | _ => 0)
          rw [eL, (upd_ne nLD).trans upd_same]
          show (p1.eraseIdx z.toNat).length < _
          rw [el2]
          omega
end
end OH
end
section
set_option Elab.async false
set_option linter.all false
set_option maxRecDepth 100000
set_option maxHeartbeats 8000000
/-! The law's words and the nodes just within a node. -/
namespace OH
open PySem PySem.Spec PyProof.Rows L2
section
variable {X : Cx} {CX : CXT} {k : Nat} {sp : Sp} {E : XK} {x : Str} {p pos : Pos}
theorem pe_cD0 (D : DefF X.prog X.w X.K X.mg X.base CX k x [] sp) (hr : Room k X.A) (hg : Gl X x) (hx : Passes CX X E) (hdb : (x == ("__debug__" : Str)) = false := by decide) : PE X (.Call (.Name x p) [] [] pos) (tCall sp [] E tNil) := by
  obtain ⟨f, fd, F, h1, h2, h3⟩ := D
  exact pe_call0 F hr hg h1 h2 h3 .nil hx hdb
end
def sgK : List (Key × V) := [(.inr "plus", .str "+"), (.inr "minus", .str "-"), (.inr "times", .str "*"), (.inr "rest", .str "rest"), (.inr "less", .str "<"), (.inr "same", .str "=")]
theorem sg_val (w : Str) : (valV sgK (Sum.inr w : Key)).isSome = decide (w ∈ opsL) := by
  have key : ∀ (l : List (Key × V)) (ws : List Str), l.map (·.1) = ws.map Sum.inr → (valV l (Sum.inr w : Key)).isSome = decide (w ∈ ws) := by
    intro l
    induction l with
    | nil =>
      intro ws h
      cases ws with
      | nil => rfl
      | cons _ _ => cases h
    | cons p l ih =>
      intro ws h
      cases ws with
      | nil => cases h
      | cons a ws =>
        obtain ⟨k, v⟩ := p
        rw [List.map_cons, List.map_cons] at h
        injection h with h1 h2
        obtain rfl : k = Sum.inr a := h1
        by_cases e : w = a
        · rw [decide_eq_true (by rw [e]; exact List.mem_cons_self)]
          show (valV ((Sum.inr a, v) :: l) (Sum.inr w)).isSome = true
          rw [e]
          simp [valV]
        · have q := ih ws h2
          have ne : ¬ (Sum.inr a : Key) = Sum.inr w := fun z => e (by injection z with z; exact z.symm)
          have e2 : valV ((Sum.inr a, v) :: l) (Sum.inr w : Key) = valV l (Sum.inr w : Key) := by simp [valV, ne]
          rw [e2, q]
          exact decide_eq_decide.mpr ⟨fun m => List.mem_cons_of_mem _ m, fun m => (List.mem_cons.mp m).resolve_left e⟩
  exact key sgK opsL rfl
def spSigns : Sp := fun vs H Q _ => vs = [] ∧ ∀ p H', Same H H' → H p = none → H' p = some (.dK sgK) → Q (.ref p) H'
theorem any_strs (w : Str) (ks : List Str) : ((ks.map PyData.str).any fun z => PyData.eqv z (.str w)) = decide (w ∈ ks) := by
  rw [List.any_map, Bool.eq_iff_iff, List.any_eq_true, decide_eq_true_iff]
  constructor
  · rintro ⟨k, m, e⟩
    have e : (k == w) = true := e
    rw [← eq_of_beq e]
    exact m
  · intro m
    exact ⟨w, m, (show (w == w) = true from beq_self_eq_true w)⟩
section
variable {P : Program} {w : World} {K : PySem.W.Frag} {mg : Str → Option Value} {base : Heap}
theorem sc_signs : FnScope [] [] (defScope s__law_signs_of) := ⟨rfl, rfl, rfl, by decide +kernel, rfl, by decide +kernel, by decide +kernel⟩
theorem ok_signs {f : Addr} {fd : FuncData} (F : Fun K "_law_signs_of" "_law_signs_of" s__law_signs_of f fd) : FnOk P w K mg base CX0 1 f fd [] spSigns := by
  refine F.ok sc_signs (fun vs H Q E h => ?_) (fun cdv A outer s H vs Q E hr h => ?_)
  · obtain ⟨rfl, _⟩ := h
    rfl
  · obtain ⟨rfl, k⟩ := h
    refine ⟨_, pss_one (ps_ret (pe_disp (pps_cons pe_str pe_str (pps_cons pe_str pe_str (pps_cons pe_str pe_str (pps_cons pe_str pe_str (pps_cons pe_str pe_str (pps_cons pe_str pe_str pps_nil)))))) (by rfl) (by rfl) (by decide) (by decide))), ?_⟩
    intro p np
    refine ⟨upd_same, sgK, rfl, (by decide), ?_⟩
    have e : upd (upd H p (.dK [])) p (.dK (mergeK [] sgK)) = upd H p (.dK (mergeK [] sgK)) := by
      funext q
      by_cases h : q = p
      · rw [h, upd_same, upd_same]
      · rw [upd_ne h, upd_ne h, upd_ne h]
    have em : mergeK ([] : List (Key × V)) sgK = sgK := rfl
    rw [e, em]
    exact k p _ (sadd (Same.refl H) np) np upd_same
end
end OH
end
section
set_option Elab.async false
set_option linter.all false
set_option maxRecDepth 100000
set_option maxHeartbeats 8000000
/-! The law's: the nodes just within a node. -/
namespace OH
open PySem PySem.Spec PyProof.Rows L2
theorem opsL_ok : ∀ w ∈ opsL, PyData.strOk w = true := by decide +kernel
theorem Form.wordOk {R : Str → Prop} {x : PyData} {ks : List PyData} (h : Form R x ks) : ∀ w r, x = .tuple (.str w :: r) → PyData.strOk w = true := by
  intro w r e
  cases h with
  | op w' hw a b =>
    injection e with e
    injection e with e1 e2
    injection e1 with e1
    rw [← e1]
    exact opsL_ok _ hw
  | _ =>
    injection e with e
    injection e with e1 e2
    injection e1 with e1
    rw [← e1]
    decide +kernel
theorem shaped_str {z : Str} (h : PyData.strOk z = true) : SeqAt.shaped (.str z) = true := by
  show (PyData.canLay0 (.str z) && decide (0 ≤ 64)) = true
  rw [show PyData.canLay0 (.str z) = true by simp [PyData.canLay0, h]]
  rfl
section
variable {P : Program} {w : World} {K : PySem.W.Frag} {mg : Str → Option Value} {base : Heap}
theorem sc_inner : FnScope ["node", "word"] ["node"] (defScope s__law_inner_of) := ⟨rfl, rfl, rfl, by decide +kernel, rfl, by decide +kernel, by decide +kernel⟩
theorem ok_inner {f : Addr} {fd : FuncData} (F : Fun K "_law_inner_of" "_law_inner_of" s__law_inner_of f fd) (T : Txt K mg) (DS : DefF P w K mg base CX0 1 "_law_signs_of" [] spSigns) : FnOk P w K mg base CX0 2 f fd ["node"] spChildren := by
  refine F.ok sc_inner (fun vs H Q E h => ?_) (fun cdv A outer s H vs Q E hr h => ?_)
  · obtain ⟨Z, R, v, x, ks, rfl, _⟩ := h
    rfl
  · obtain ⟨Z, R, v, x, ks, rfl, hv, hf, hl, k⟩ := h
    have nd0 := sc_inner.nd
    have hu := Room_u65 hr
    have hu1 := Nat.lt_of_le_of_lt (Nat.add_le_add_left (show 1 ≤ 65 by decide) _) hu
    refine ⟨_, pss_cons (ps_set (i := 1) nd0 rfl (Or.inl rfl) (pe_ix ix_tup (pv 0) pe_int (fun _ _ => rfl)))
      (pss_cons (ps_if (PW.pt (pw_or (pt_cmp (pc_din hu1 (pv 1) (pe_cD0 DS hr rfl pass0))) (pw_or1 (pt_cmpR op_eq (pv 1) pe_str (nomark _))))) (pss_one (ps_ret (pe_callTy call_list_of (by rfl) T.nList (by decide +kernel) (pa_cons (pe_slice sl_tup (pv 0) (po_some pe_int) po_none) pa_nil)))) pss_nil)
      (pss_cons (ps_if (pt_cmpR (op_inD hu) (pv 1) (pe_lst (pa_cons pe_str (pa_cons pe_str (pa_cons pe_str pa_nil)))) (by rfl)) (pss_one (ps_ret (pe_callTy call_list_of (by rfl) T.nList (by decide +kernel) (pa_cons (pe_slice sl_tup (pv 0) (po_some pe_int) po_none) pa_nil)))) pss_nil)
      (pss_cons (ps_if (pt_cmpR op_eq (pv 1) pe_str (nomark _)) (pss_one (ps_ret (pe_callTy call_list_of (by rfl) T.nList (by decide +kernel) (pa_cons (pe_ix ix_tup (pv 0) pe_int (fun _ _ => rfl)) pa_nil)))) pss_nil)
      (pss_cons (ps_if (pt_cmpR op_eq (pv 1) pe_str (nomark _)) (pss_one (ps_ret (pe_lst (pa_cons (pe_ix ix_tup (pv 0) pe_int (fun _ _ => rfl)) pa_nil)))) pss_nil)
      (pss_cons (ps_if (pt_cmpR op_eq (pv 1) pe_str (nomark _)) (pss_one (ps_ret (pe_op op_cat (pe_lst (pa_cons (pe_ix ix_tup (pv 0) pe_int (fun _ _ => rfl)) pa_nil)) (pe_callTy call_list_of (by rfl) T.nList (by decide +kernel) (pa_cons (pe_op op_catA (pe_ix ix_tup (pv 0) pe_int (fun _ _ => rfl)) (pe_ix ix_tup (pv 0) pe_int (fun _ _ => rfl))) pa_nil))))) pss_nil)
      (pss_one (ps_ret (pe_ifExp (pt_cmpR op_eq (pv 1) pe_str (nomark _)) (pe_op op_cat (pe_lst (pa_cons (pe_ix ix_tup (pv 0) pe_int (fun _ _ => rfl)) pa_nil)) (pe_callTy call_list_of (by rfl) T.nList (by decide +kernel) (pa_cons (pe_ix ix_tup (pv 0) pe_int (fun _ _ => rfl)) pa_nil))) (pe_lst pa_nil)))))))))
, ?_⟩
    have wok := hf.wordOk
    obtain ⟨w0, r, rfl, fi⟩ := hf.inv
    have wok := wok w0 r rfl
    obtain ⟨a, xs, rfl, ha, hs⟩ := hv.tupE
    obtain ⟨v0, vs, rfl, h0, hr'⟩ := hs.consE
    have hz : w0.length ≤ 1000 := by cases h0; assumption
    obtain rfl : v0 = .str w0 := by cases h0; rfl
    have sL := sizeLine_eq
    have at0 : atI (V.str w0 :: vs) 0 = some (.str w0) := atI_nat (j := 0) rfl
    have fin : ∀ {H1 : Hp} {us : List V}, Same H H1 → DAs Z H us ks → ∀ l, H1 l = none → Q (.ref l) (upd H1 l (.lst us)) := fun {H1 us} s1 hus l nl => k l us _ (s1.trans (sadd (Same.refl H1) nl)) (s1.free nl) upd_same (hus.same (s1.trans (sadd (Same.refl H1) nl)))
    refine ⟨_, rfl, a, _, 0, _, rfl, rfl, SqT.of ha, at0, ?_⟩
    refine ⟨_, rfl, rfl, fun p H1 s1 n1 hp => ?_⟩
    refine ⟨p, _, rfl, DGet.k (k := Sum.inr w0) hp, _, rfl, ?_⟩
    rw [sg_val]
    have ha1 := s1 _ _ ha
    by_cases q0 : w0 ∈ opsL
    · rw [decide_eq_true q0]
      obtain ⟨d1, d2, rfl, rfl⟩ := fi.op q0
      obtain ⟨u1, u2, rfl, g1, g2⟩ := hr'.two
      exact iteT (iteT ⟨_, rfl, 1, rfl, a, _, rfl, SqT.of ha1, (by rintro ⟨e, _⟩; exact absurd e (by show ¬ HT.sIx 3 0 (some 1) = 0; decide)), fun p np => ⟨p, _, rfl, .inr (SqT.of upd_same), fin (sadd s1 np) (.cons g1 (.cons g2 .nil))⟩⟩)
    rw [decide_eq_false q0]
    refine iteF ⟨_, rfl, rfl, _, rfl, ?_⟩
    have nx : ∀ {k : Str}, decide (V.str w0 = V.str k) = decide (w0 = k) := fun {k} => decide_eq_decide.mpr ⟨fun q => by injection q, fun q => by rw [q]⟩
    by_cases q8 : w0 = "give"
    · rw [nx, decide_eq_true q8]
      obtain ⟨a1, rfl, rfl⟩ := fi.give q8
      obtain ⟨u1, us, rfl, g1, gs⟩ := hr'.consE
      cases gs
      exact iteT ⟨_, rfl, 1, rfl, a, _, rfl, SqT.of ha1, (by rintro ⟨e, _⟩; exact absurd e (by show ¬ HT.sIx 2 0 (some 1) = 0; decide)), fun p np => ⟨p, _, rfl, .inr (SqT.of upd_same), fin (sadd s1 np) (.cons g1 .nil)⟩⟩
    rw [nx, decide_eq_false q8]
    refine iteF ⟨_, rfl, (by show 3 ≤ sizeLine; decide), fun l nl => ?_⟩
    have s2 := sadd (o := .lst [.str "let", .str "cell", .str "store"]) s1 nl
    have ha2 := s2 _ _ ha
    have dl : DAs NoZ (upd H1 l (.lst [.str "let", .str "cell", .str "store"])) [.str "let", .str "cell", .str "store"] ([("let" : Str), "cell", "store"].map PyData.str) := .cons (.str _ (by decide)) (.cons (.str _ (by decide)) (.cons (.str _ (by decide)) .nil))
    refine ⟨.str w0, [("let" : Str), "cell", "store"].map PyData.str, (DA.str (Z := NoZ) w0 hz).dp, .lst (SqL.of upd_same) dl.dp, shaped_str wok, (by decide +kernel), _, rfl, ?_⟩
    clear dl
    rw [any_strs]
    generalize upd H1 l (.lst [.str "let", .str "cell", .str "store"]) = H2 at s2 ha2 ⊢
    by_cases q1 : w0 ∈ [("let" : Str), "cell", "store"]
    · rw [decide_eq_true q1]
      refine iteT ?_
      by_cases q2 : w0 = "store"
      · obtain ⟨n, a1, a2, rfl, rfl⟩ := fi.store q2
        obtain ⟨u1, u2, u3, rfl, g1, g2, g3⟩ := hr'.three
        exact ⟨_, rfl, 2, rfl, a, _, rfl, SqT.of ha2, (by rintro ⟨e, _⟩; exact absurd e (by show ¬ HT.sIx 4 0 (some 2) = 0; decide)), fun p np => ⟨p, _, rfl, .inr (SqT.of upd_same), fin (sadd s2 np) (.cons g2 (.cons g3 .nil))⟩⟩
      · have q3 : w0 = "cell" ∨ w0 = "let" := by
          rcases List.mem_cons.mp q1 with e | m
          · exact .inr e
          · rcases List.mem_cons.mp m with e | m
            · exact .inl e
            · exact absurd (List.mem_singleton.mp m) q2
        obtain ⟨n, a1, rfl, rfl⟩ := fi.one q3
        obtain ⟨u1, u2, rfl, g1, g2⟩ := hr'.two
        exact ⟨_, rfl, 2, rfl, a, _, rfl, SqT.of ha2, (by rintro ⟨e, _⟩; exact absurd e (by show ¬ HT.sIx 3 0 (some 2) = 0; decide)), fun p np => ⟨p, _, rfl, .inr (SqT.of upd_same), fin (sadd s2 np) (.cons g2 .nil)⟩⟩
    rw [decide_eq_false q1]
    refine iteF ⟨_, rfl, rfl, _, rfl, ?_⟩
    by_cases q4 : w0 = "run"
    · rw [nx, decide_eq_true q4]
      obtain ⟨z, es, rfl, rfl, _⟩ := fi.run q4
      obtain ⟨u1, u2, rfl, g1, g2⟩ := hr'.two
      obtain ⟨b, ys, rfl, hb, hbs⟩ := g2.tupE
      exact iteT ⟨_, rfl, a, _, 2, _, rfl, rfl, SqT.of ha2, atI_nat (j := 2) rfl, b, ys, rfl, .inr (SqT.of (s2 _ _ hb)), fin s2 hbs⟩
    rw [nx, decide_eq_false q4]
    refine iteF ⟨_, rfl, rfl, _, rfl, ?_⟩
    by_cases q5 : w0 = "ask"
    · rw [nx, decide_eq_true q5]
      obtain ⟨y, z, a1, rfl, rfl⟩ := fi.ask q5
      obtain ⟨u1, u2, u3, rfl, g1, g2, g3⟩ := hr'.three
      exact iteT ⟨_, rfl, a, _, 3, _, rfl, rfl, SqT.of ha2, atI_nat (j := 3) rfl, (by show 1 ≤ sizeLine; decide), fin s2 (.cons g3 .nil)⟩
    rw [nx, decide_eq_false q5]
    refine iteF ⟨_, rfl, rfl, _, rfl, ?_⟩
    by_cases q6 : w0 = "if"
    · rw [nx, decide_eq_true q6]
      obtain ⟨a1, es, fs, rfl, rfl⟩ := fi.if_ q6
      obtain ⟨u1, u2, u3, rfl, g1, g2, g3⟩ := hr'.three
      obtain ⟨b, ys, rfl, hb, hbs⟩ := g2.tupE
      obtain ⟨c, zs, rfl, hc, hcs⟩ := g3.tupE
      have ly := hbs.len
      have lz := hcs.len
      have lall : es.length + fs.length + 1 ≤ 1000000 := by rw [List.length_cons, List.length_append] at hl; exact hl
      refine iteT ⟨_, rfl, a, _, 1, _, rfl, rfl, SqT.of ha2, atI_nat (j := 1) rfl, (by show 1 ≤ sizeLine; decide), fun l1 nl1 => ?_⟩
      have s3 := sadd (o := .lst [u1]) s2 nl1
      have s23 := sadd (o := .lst [u1]) (Same.refl H2) nl1
      have hl1 : upd H2 l1 (.lst [u1]) l1 = some (.lst [u1]) := upd_same
      generalize upd H2 l1 (.lst [u1]) = H3 at s3 s23 hl1 ⊢
      have ha3 := s3 _ _ ha
      have out : ∀ (p : Addr) (H4 : Hp), Same H3 H4 → H4 p = some (.tup (ys ++ zs)) → ∀ l2, H4 l2 = none → rCat (.ref l1) (.ref l2) (upd H4 l2 (.lst (ys ++ zs))) Q := fun p H4 s34 hp4 l2 nl2 => by
        have s4 := sadd (o := .lst (ys ++ zs)) s34 nl2
        refine ⟨l1, l2, [u1], ys ++ zs, rfl, rfl, s4 _ _ hl1, upd_same, by rw [List.length_append, List.length_singleton]; omega, fin (s3.trans s4) (.cons g1 (hbs.app hcs))⟩
      refine ⟨_, rfl, a, _, 2, _, rfl, rfl, SqT.of ha3, atI_nat (j := 2) rfl, _, rfl, a, _, 3, _, rfl, rfl, SqT.of ha3, atI_nat (j := 3) rfl, ?_⟩
      refine ⟨b, c, ys, zs, rfl, rfl, SqT.of (s3 _ _ hb), SqT.of (s3 _ _ hc), by omega, fun e => ?_, fun _ e => ?_, fun _ _ p np => ?_⟩
      · refine ⟨c, _, rfl, .inr (SqT.of (s3 _ _ hc)), fun l2 nl2 => ?_⟩
        have := out c H3 (Same.refl _) (by rw [e]; exact s3 _ _ hc) l2 nl2
        rwa [e] at this
      · refine ⟨b, _, rfl, .inr (SqT.of (s3 _ _ hb)), fun l2 nl2 => ?_⟩
        have := out b H3 (Same.refl _) (by rw [e, List.append_nil]; exact s3 _ _ hb) l2 nl2
        rwa [e, List.append_nil] at this
      · exact ⟨p, _, rfl, .inr (SqT.of upd_same), fun l2 nl2 => out p _ (sadd (Same.refl H3) np) upd_same l2 nl2⟩
    rw [nx, decide_eq_false q6]
    refine iteF ⟨_, rfl, rfl, _, rfl, ?_⟩
    by_cases q7 : w0 = "while"
    · rw [nx, decide_eq_true q7]
      obtain ⟨a1, es, rfl, rfl⟩ := fi.while_ q7
      obtain ⟨u1, u2, rfl, g1, g2⟩ := hr'.two
      obtain ⟨b, ys, rfl, hb, hbs⟩ := g2.tupE
      have ly := hbs.len
      have lall : es.length + 1 ≤ 1000000 := by rw [List.length_cons] at hl; exact hl
      refine iteT ⟨_, rfl, a, _, 1, _, rfl, rfl, SqT.of ha2, atI_nat (j := 1) rfl, (by show 1 ≤ sizeLine; decide), fun l1 nl1 => ?_⟩
      have s3 := sadd (o := .lst [u1]) s2 nl1
      have hl1 : upd H2 l1 (.lst [u1]) l1 = some (.lst [u1]) := upd_same
      generalize upd H2 l1 (.lst [u1]) = H3 at s3 hl1 ⊢
      refine ⟨_, rfl, a, _, 2, _, rfl, rfl, SqT.of (s3 _ _ ha), atI_nat (j := 2) rfl, b, ys, rfl, .inr (SqT.of (s3 _ _ hb)), fun l2 nl2 => ?_⟩
      have s4 := sadd (o := .lst ys) (Same.refl H3) nl2
      exact ⟨l1, l2, [u1], ys, rfl, rfl, s4 _ _ hl1, upd_same, by rw [List.length_singleton]; omega, fin (s3.trans s4) (.cons g1 hbs)⟩
    rw [nx, decide_eq_false q7]
    have e0 := fi.rest q0 (fun e => q1 (by rw [e]; decide)) (fun e => q1 (by rw [e]; decide)) (fun e => q1 (by rw [e]; decide)) q4 q5 q6 q7 q8
    exact iteF ⟨(by show 0 ≤ sizeLine; decide), fin s2 (by rw [e0]; exact .nil)⟩
end
end OH
end
section
set_option Elab.async false
set_option linter.all false
set_option maxRecDepth 100000
set_option maxHeartbeats 8000000
/-! The law's reading of a body. -/
namespace OH
open PySem PySem.Spec PyProof.Rows L2
/-- pairs of things and depths -/
def RdP (H : Hp) (ps : List Addr) (us : List V) : Prop := Paired (fun p u => ∃ k : Int, H p = some (.tup [u, .int k])) ps us
theorem RdP.same {H H' : Hp} {ps : List Addr} {us : List V} (h : RdP H ps us) (s : Same H H') : RdP H' ps us := by
  unfold RdP at h ⊢
  induction h with
  | nil => exact .nil
  | cons a _ ih => exact .cons (let ⟨k, e⟩ := a; ⟨k, s _ _ e⟩) ih
theorem RdP.app {H : Hp} {ps qs : List Addr} {us ws : List V} (h : RdP H ps us) (g : RdP H qs ws) : RdP H (ps ++ qs) (us ++ ws) := by
  unfold RdP at h ⊢
  induction h with
  | nil => exact g
  | cons a _ ih => exact .cons a ih
def spReading (d : Nat) : Sp := fun vs H Q _ => ∃ (Z : Addr → Prop) (R : Str → Prop) (a : Addr) (k : Int) (xs : List V) (ds : List PyData), vs = [.ref a, .int k] ∧ SeqH H a xs ∧ DAs Z H xs ds ∧ (∀ x ∈ ds, NdOk R d x) ∧ (nodesIn d ds).length ≤ 1000 ∧
  ∀ l ps us H', Same H H' → H l = none → H' l = some (.lst (ps.map V.ref)) → RdP H' ps us → DAs Z H' us (nodesIn d ds) → Q (.ref l) H'
def spRdN : Nat → Sp
  | 0 => fun _ _ _ _ => False
  | d + 1 => spReading d
section
variable {P : Program} {w : World} {K : PySem.W.Frag} {mg : Str → Option Value} {base : Heap}
theorem sc_reading : FnScope ["body", "deep", "found", "node"] ["body", "deep"] (defScope s__law_reading) := ⟨rfl, rfl, rfl, by decide +kernel, rfl, by decide +kernel, by decide +kernel⟩
theorem ok_reading_step {f : Addr} {fd : FuncData} (d : Nat) (F : Fun K "_law_reading" "_law_reading" s__law_reading f fd) (DI : DefF P w K mg base CX0 2 "_law_inner_of" ["node"] spChildren) (DN : DefF P w K mg base CX0 (d + 2) "_law_reading" ["body", "deep"] (spRdN d)) :
    FnOk P w K mg base CX0 (d + 3) f fd ["body", "deep"] (spReading d) := by
  refine F.ok sc_reading (fun vs H Q E h => ?_) (fun cdv A outer s H vs Q E hr h => ?_)
  · obtain ⟨Z, R, a, k, xs, ds, rfl, _⟩ := h
    rfl
  · obtain ⟨Z, R, a, kd, xs, ds, rfl, ha, hs, ok, few, k⟩ := h
    have nd0 := sc_reading.nd
    have hr2 : Room 2 _ := hr.mono (show 2 ≤ d + 2 by omega)
    refine ⟨_, pss_cons (ps_set (i := 2) nd0 rfl (Or.inl rfl) (pe_lst pa_nil))
      (pss_cons (ps_for PassesOwn.never rfl (pi_or (pi_tup (pv 0)) (pi_list (pv 0))) (pg_name (i := 3) nd0 rfl (Or.inl rfl))
        (pss_one (ps_set (i := 2) nd0 rfl (Or.inl rfl) (pe_op op_cat (pe_op op_cat (pv 2) (pe_lst (pa_cons (pe_tup (pa_cons (pv 3) (pa_cons (pv 1) pa_nil))) pa_nil)))
          (pe_cD DN hr rfl pass0 (pa_cons (pe_cD DI hr2 rfl pass0 (pa_cons (pv 3) pa_nil)) (pa_cons (pe_op op_add (pv 1) pe_int) pa_nil)))))))
      (pss_one (ps_ret (pv 2)))), ?_⟩
    have sL := sizeLine_eq
    have el := hs.len
    refine ⟨(by show 0 ≤ sizeLine; decide), fun D nD => ?_⟩
    have s0 := sadd (o := .lst []) (Same.refl H) nD
    have hD0 : upd H D (.lst []) D = some (.lst []) := upd_same
    have ha0 := ha.same s0
    generalize upd H D (.lst []) = H0 at s0 hD0 ha0 ⊢
    have pre : ∀ i, (nodesIn d (ds.take i)).length + (nodesIn d (ds.drop i)).length ≤ 1000 := fun i => by
      rw [← List.length_append, ← nodesIn_app, List.take_append_drop]
      exact few
    refine' cut3 (fun turn done => ?_) ?_ ?_
    rotate_left 2
    · rcases ha0 with h | h
      · exact .inl ⟨_, rfl, a, rfl, ⟨_, SqT.of h⟩, for_tup (xs := xs) (fun i σ H' => ∃ (o : Option V) (l : Addr) (ps : List Addr) (us : List V), σ = [some (.ref a), some (.int kd), some (.ref l), o] ∧ Same H H' ∧ H l = none ∧ H' l = some (.lst (ps.map V.ref)) ∧ RdP H' ps us ∧ DAs Z H' us (nodesIn d (ds.take i))) ⟨none, D, [], [], rfl, s0, nD, hD0, .nil, by rw [List.take_zero, nodesIn_nil]; exact .nil⟩ (fun i σ H' _ ⟨o, l, ps, us, _, c, _⟩ => SqT.of (c a _ (ha.elim id fun z => by have := s0 _ _ z; rw [h] at this; cases this))) turn done⟩
      · exact .inr ⟨_, rfl, a, rfl, ⟨_, SqL.of h⟩, for_list (xs := xs) (fun i σ H' => ∃ (o : Option V) (l : Addr) (ps : List Addr) (us : List V), σ = [some (.ref a), some (.int kd), some (.ref l), o] ∧ Same H H' ∧ H l = none ∧ H' l = some (.lst (ps.map V.ref)) ∧ RdP H' ps us ∧ DAs Z H' us (nodesIn d (ds.take i))) ⟨none, D, [], [], rfl, s0, nD, hD0, .nil, by rw [List.take_zero, nodesIn_nil]; exact .nil⟩ (fun i σ H' _ ⟨o, l, ps, us, _, c, _⟩ => SqL.of (c a _ (ha.elim (fun z => by have := s0 _ _ z; rw [h] at this; cases this) id))) turn done⟩
    · rintro i u σ H2 hu ⟨o, l, ps, us, rfl, s2, nl, hl2, rd, dv⟩
      obtain ⟨x, hx, hda⟩ := hs.get hu
      have hx2 := hda.same s2
      cases d with
      | zero => exact (ok x (List.mem_of_getElem? hx)).elim
      | succ e =>
      obtain ⟨fx, kx⟩ := ok x (List.mem_of_getElem? hx)
      have et : nodesIn (e + 1) (ds.take (i + 1)) = nodesIn (e + 1) (ds.take i) ++ x :: nodesIn e (kids x) := by
        rw [List.take_add_one, hx, nodesIn_app]
        show _ ++ nodesIn (e + 1) [x] = _
        rw [nodesIn_one]
      have lt := pre (i + 1)
      rw [et, List.length_append, List.length_cons] at lt
      have lv := dv.len
      have lp : ps.length = us.length := Paired.length rd
      have lk := nodes_ge e (kids x) kx
      refine ⟨_, rfl, _, rfl, _, rfl, (by show 2 ≤ sizeLine; decide), fun pr npr => ⟨(by show 1 ≤ sizeLine; decide), fun l1 nl1 => ?_⟩⟩
      have s23 := sadd (o := .lst [.ref pr]) (sadd (o := .tup [u, .int kd]) (Same.refl H2) npr) nl1
      have hpr : upd (upd H2 pr (.tup [u, .int kd])) l1 (.lst [.ref pr]) pr = some (.tup [u, .int kd]) := (upd_ne (ne_of_none upd_same nl1)).trans upd_same
      have hl1 : upd (upd H2 pr (.tup [u, .int kd])) l1 (.lst [.ref pr]) l1 = some (.lst [.ref pr]) := upd_same
      generalize upd (upd H2 pr (.tup [u, .int kd])) l1 (.lst [.ref pr]) = H3 at s23 hpr hl1 ⊢
      refine ⟨l, l1, ps.map V.ref, [.ref pr], rfl, rfl, s23 _ _ hl2, hl1, by rw [List.length_map, List.length_singleton]; omega, fun l2 nl2 => ?_⟩
      have s34 := sadd (o := .lst (ps.map V.ref ++ [.ref pr])) (Same.refl H3) nl2
      have hl22 : upd H3 l2 (.lst (ps.map V.ref ++ [.ref pr])) l2 = some (.lst (ps.map V.ref ++ [.ref pr])) := upd_same
      generalize upd H3 l2 (.lst (ps.map V.ref ++ [.ref pr])) = H4 at s34 hl22 ⊢
      have s24 := s23.trans s34
      refine ⟨_, rfl, _, R, u, x, kids x, rfl, hx2.same s24, fx, by omega, fun l3 k3 H5 s45 n3 hl3 dk => ?_⟩
      refine ⟨_, rfl, kd, 1, rfl, rfl, ?_⟩
      refine ⟨_, R, l3, _, k3, kids x, rfl, .inr hl3, dk, kx, by omega, fun l6 ps6 us6 H6 s56 n6 hl6 rd6 dn => ?_⟩
      have s46 := s45.trans s56
      have l6' : ps6.length = us6.length := Paired.length rd6
      have ln := dn.len
      refine ⟨l2, l6, _, _, rfl, rfl, s46 _ _ hl22, hl6, by rw [List.length_append, List.length_map, List.length_map, List.length_singleton]; omega, fun l7 nl7 => ?_⟩
      have s67 := sadd (o := .lst (ps.map V.ref ++ [.ref pr] ++ ps6.map V.ref)) (Same.refl H6) nl7
      have s36 := s34.trans s46
      have s26 := s24.trans s46
      have el7 : ps.map V.ref ++ [.ref pr] ++ ps6.map V.ref = (ps ++ [pr] ++ ps6).map V.ref := by rw [List.map_append, List.map_append]; rfl
      refine ⟨some u, l7, ps ++ [pr] ++ ps6, us ++ [u] ++ us6, rfl, s2.trans (s26.trans s67), ((s2.trans s26)).free nl7, by rw [← el7]; exact upd_same, ?_, ?_⟩
      · exact (((rd.same s26).app (.cons ⟨kd, s36 _ _ hpr⟩ .nil)).app rd6).same s67
      · rw [et]
        have d6 := ((((dv.same s26).app (.cons (hx2.same s26) .nil)).app dn)).same s67
        rw [show nodesIn (e + 1) (ds.take i) ++ [x] ++ nodesIn e (kids x) = nodesIn (e + 1) (ds.take i) ++ x :: nodesIn e (kids x) from List.append_assoc ..] at d6
        exact d6
    · rintro σ H2 ⟨o, l, ps, us, rfl, s2, nl, hl2, rd, dv⟩
      rw [el, List.take_length] at dv
      exact ⟨_, rfl, k l ps us H2 s2 nl hl2 rd dv⟩
theorem ok_reading {f : Addr} {fd : FuncData} (F : Fun K "_law_reading" "_law_reading" s__law_reading f fd) (m : mg "_law_reading" = some (.ref f)) (kk : PySem.W.keepIn K (.ref f) = true) (b : Binds K fd ["body", "deep"] []) (DI : DefF P w K mg base CX0 2 "_law_inner_of" ["node"] spChildren) : ∀ d : Nat, FnOk P w K mg base CX0 (d + 3) f fd ["body", "deep"] (spReading d)
  | 0 => by
    have v0 : FnOk P w K mg base CX0 2 f fd ["body", "deep"] (spRdN 0) := F.ok sc_reading (fun vs H Q E h => h.elim) (fun cdv A outer s H vs Q E hr h => h.elim)
    exact ok_reading_step 0 F DI ⟨f, fd, v0, m, kk, b⟩
  | d + 1 => ok_reading_step (d + 1) F DI ⟨f, fd, ok_reading F m kk b DI d, m, kk, b⟩
end
end OH
end
section
set_option Elab.async false
set_option linter.all false
set_option maxRecDepth 100000
set_option maxHeartbeats 8000000
/-! The law's dict of bodies. -/
namespace OH
open PySem PySem.Spec PyProof.Rows L2
theorem put_new {k : Key} {v : V} {acc : List (Key × V)} (h : k ∉ acc.map (·.1)) : putK acc k v = acc ++ [(k, v)] := by
  unfold putK
  rw [if_neg (by
    rw [List.any_eq_true]
    rintro ⟨x, m, e⟩
    exact h (List.mem_map.mpr ⟨x, m, by simpa using e⟩))]
theorem merge_new : ∀ (kvs acc : List (Key × V)), ((acc ++ kvs).map (·.1)).Nodup → mergeK acc kvs = acc ++ kvs
  | [], acc, _ => (List.append_nil acc).symm
  | (k, v) :: kvs, acc, h => by
    have h2 : k ∉ acc.map (·.1) := by
      rw [List.map_append, List.map_cons] at h
      intro m
      exact (List.nodup_append.mp h).2.2 k m k List.mem_cons_self rfl
    show mergeK (putK acc k v) kvs = _
    rw [put_new h2, merge_new kvs (acc ++ [(k, v)]) (by rw [List.append_assoc]; exact h), List.append_assoc]
    rfl
/-- names and bodies -/
def BdAt (H : Hp) (kvs : List (Key × V)) (ps : List PyData) : Prop := Paired (fun kv p => kv.1 = Sum.inr (nameB p) ∧ DA NoZ H kv.2 (bdD p)) kvs ps
theorem BdAt.mono {H H' : Hp} {kvs : List (Key × V)} {ps : List PyData} (h : BdAt H kvs ps) (k : ∀ q xs, H q = some (.tup xs) → H' q = some (.tup xs)) : BdAt H' kvs ps := by
  unfold BdAt at h ⊢
  induction h with
  | nil => exact .nil
  | cons a _ ih => exact .cons ⟨a.1, a.2.mono k⟩ ih
theorem pd_imp {α β : Type} {F G : α → β → Prop} {l : List α} {m : List β} (h : Paired F l m) (f : ∀ x y, F x y → G x y) : Paired G l m := by
  induction h with
  | nil => exact .nil
  | cons a _ ih => exact .cons (f _ _ a) ih
theorem Paired.snoc {α β : Type} {F : α → β → Prop} {l : List α} {m : List β} {x : α} {y : β} (h : Paired F l m) (f : F x y) : Paired F (l ++ [x]) (m ++ [y]) := by
  induction h with
  | nil => exact .cons f .nil
  | cons a _ ih => exact .cons a ih
theorem BdAt.keys {H : Hp} {kvs : List (Key × V)} {ps : List PyData} (h : BdAt H kvs ps) : kvs.map (·.1) = (ps.map nameB).map Sum.inr := by
  unfold BdAt at h
  induction h with
  | nil => rfl
  | cons a _ ih => rw [List.map_cons, List.map_cons, List.map_cons, ih, a.1]
theorem part_sh {fs ds : List PyData} (af : fs.all funHJ = true) (ad : ds.all doorHJ = true) {p : PyData} (m : p ∈ fs ++ ds) : ∃ (z : Str) (mid : List PyData) (b : PyData), p = .tuple (.str z :: (mid ++ [b])) := by
  rcases List.mem_append.mp m with m | m
  · obtain ⟨z, ps, b, rfl, _⟩ := funHJ_three (List.all_eq_true.mp af p m)
    exact ⟨z, [.tuple ps], b, rfl⟩
  · have h := List.all_eq_true.mp ad p m
    obtain ⟨x, y, z, b, rfl⟩ := doorHJ_four h
    obtain ⟨w, es, e⟩ := doorHJ_fst _ h
    injection e with e
    injection e with e1 e2
    exact ⟨w, [y, z], b, by rw [e1]; rfl⟩
def rLn (K : PySem.W.Frag) : List V → Hp → VK → Prop := fun xs H Q => ∃ p ys, xs = [.ref p] ∧ (SqL K H p ys ∨ SqT K H p ys) ∧ Q (.int ys.length) H
def spBodies : Sp := fun vs H Q _ => ∃ (v : V) (z : Str) (i b : PyData) (fs ds : List PyData), vs = [v] ∧ RmAt NoZ H v z i b fs ds ∧ ∀ p kvs H', Same H H' → H p = none → H' p = some (.dK kvs) → BdAt H' kvs (fs ++ ds) → Q (.ref p) H'
section
variable {P : Program} {w : World} {K : PySem.W.Frag} {mg : Str → Option Value} {base : Heap}
theorem sc_bodies : FnScope ["room", "one"] ["room"] (defScope s__law_bodies) := ⟨rfl, rfl, rfl, by decide +kernel, rfl, by decide +kernel, by decide +kernel⟩
theorem ok_bodies {f : Addr} {fd : FuncData} (F : Fun K "_law_bodies" "_law_bodies" s__law_bodies f fd) (T : Txt K mg) (nD : mg "dict" = none) : FnOk P w K mg base CX0 1 f fd ["room"] spBodies := by
  refine F.ok sc_bodies (fun vs H Q E h => ?_) (fun cdv A outer s H vs Q E hr h => ?_)
  · obtain ⟨v, z, i, b, fs, ds, rfl, _⟩ := h
    rfl
  · obtain ⟨v, z, i, b, fs, ds, rfl, hR, k⟩ := h
    have nd0 := sc_bodies.nd
    refine ⟨_, pss_one (ps_ret (pe_callTy (call_dictP rfl) (by rfl) nD (by decide +kernel) (pa_cons (pe_lc (own := [("one", 1)]) (g := gName 1) (tt := tYes) (te := tTup (tCons (tOp (rIxT K) (tVar 1) (tC (.int 0))) (tCons (tOp (rIxT K) (tVar 1) (tOp (rI0 fun i j => .int (i - j)) (tCB (rLn K) (tCons (tVar 1) tNil)) (tC (.int 1)))) tNil))) rfl nd0
        (pi_tup (pe_op op_catA (pe_ix ix_tup (pv 0) pe_int (fun _ _ => rfl)) (pe_ix ix_tup (pv 0) pe_int (fun _ _ => rfl))))
        (blkOk_by (own := [("one", 1)]) (N := ["room", "one"]) (sc := defScope s__law_bodies) (by decide +kernel)) (fun _ _ _ _ _ => pg_name (i := 1) nd0 rfl (Or.inl rfl)) (fun _ _ _ _ _ => pts_nil)
        (fun _ _ _ _ _ => pe_tup (pa_cons (pe_ix ix_tup (pv 1) pe_int (fun _ _ => rfl)) (pa_cons (pe_ix ix_tup (pv 1) (pe_op op_sub (pe_callB call_len_seq (by rfl) T.nLen PySem.boot_len (pa_cons (pv 1) pa_nil)) pe_int) (fun _ _ => rfl)) pa_nil)))) pa_nil))), ?_⟩
    obtain ⟨a, xs, rfl, ha, hs⟩ := hR.da.tupE
    obtain ⟨v0, v1, v2, v3, v4, rfl, h0, h1, h2, h3, h4⟩ := hs.five
    obtain ⟨fa, fxs, rfl, hfa, hfs⟩ := h3.tupE
    obtain ⟨da, dxs, rfl, hda, hds⟩ := h4.tupE
    have lf := hfs.len
    have ld := hds.len
    have b1 := hR.lf
    have b2 := hR.ld
    have b3 := hR.l1
    have sL := sizeLine_eq
    refine ⟨_, rfl, a, _, 3, _, rfl, rfl, SqT.of ha, atI_nat (j := 3) rfl, _, rfl, a, _, 4, _, rfl, rfl, SqT.of ha, atI_nat (j := 4) rfl, ?_⟩
    refine' cutPH (A := fun p H1 => ∃ xs, Same H H1 ∧ H1 p = some (.tup xs) ∧ DAs NoZ H1 xs (fs ++ ds)) (fun key => ?_) ?_
    rotate_left
    · refine ⟨fa, da, fxs, dxs, rfl, rfl, SqT.of hfa, SqT.of hda, by omega, fun e => ?_, fun _ e => ?_, fun _ _ p np => ?_⟩
      rotate_left 2
      · have q : ∃ xs, Same H (upd H p (.tup (fxs ++ dxs))) ∧ upd H p (.tup (fxs ++ dxs)) p = some (.tup xs) ∧ DAs NoZ (upd H p (.tup (fxs ++ dxs))) xs (fs ++ ds) := ⟨_, sadd (Same.refl H) np, upd_same, (hfs.app hds).same (sadd (Same.refl H) np)⟩
        generalize upd H p (.tup (fxs ++ dxs)) = H1 at q ⊢
        exact key p H1 q
      · subst e
        cases fs with
        | nil => exact key da H ⟨dxs, Same.refl H, hda, hds⟩
        | cons _ _ => cases lf
      · rw [e] at ld
        exact absurd ld (by show ¬ 0 = _; omega)
    rintro p H1 ⟨xs, s1, hp, hd⟩
    refine ⟨p, rfl, ⟨_, SqT.of hp⟩, fun LL nLL => ?_⟩
    have nLL0 : H LL = none := s1.free nLL
    refine lc_it (walk_tup (xs := xs)) (fun j H' => Same H H' ∧ H' p = some (.tup xs) ∧ DAs NoZ H' xs (fs ++ ds) ∧ ∃ prs kvs, H' LL = some (.lst (prs.map V.ref)) ∧ Paired (fun q kv => H' q = some (.tup [kV kv.1, kv.2])) prs kvs ∧ BdAt H' kvs ((fs ++ ds).take j))
      ⟨Same.updL s1 nLL0, (upd_ne (ne_of_none hp nLL)).trans hp, hd.same (sadd (Same.refl H1) nLL), [], [], upd_same, .nil, .nil⟩ (fun j H' _ h => SqT.of h.2.1) ?turn ?done
    case turn =>
      rintro j x H2 H3 hj ⟨s2, hp2, hd2, prs, kvs, hLL, hpr, hbd⟩ ⟨rfl, hx⟩
      obtain ⟨pt, hpt, hda2⟩ := hd2.get hx
      obtain ⟨z1, mid, bd, rfl⟩ := part_sh hR.af hR.ad (List.mem_of_getElem? hpt)
      obtain ⟨a1, ys, rfl, ha1, hys⟩ := hda2.tupE
      obtain ⟨u0, us, rfl, g0, gs⟩ := hys.consE
      obtain rfl : u0 = .str z1 := by cases g0; rfl
      obtain ⟨vm, vb, rfl, g1, g2⟩ := DAs.snoc mid gs
      have lpr : prs.length ≤ 12 := by
        have q1 := Paired.length hpr
        have q2 := Paired.length hbd
        rw [List.length_take, List.length_append] at q2
        omega
      have at9 : atI (V.str z1 :: (vm ++ [vb])) (((V.str z1 :: (vm ++ [vb])).length : Int) - 1) = some vb := by
        have e1 : (((V.str z1 :: (vm ++ [vb])).length : Int) - 1) = ((vm.length + 1 : Nat) : Int) := by
          rw [List.length_cons, List.length_append, List.length_singleton]
          omega
        rw [e1]
        exact atI_nat (j := vm.length + 1) (by rw [List.getElem?_cons_succ, List.getElem?_append_right (Nat.le_refl _), Nat.sub_self]; rfl)
      refine ⟨rfl, ?_⟩
      unfold tYes
      dsimp only []
      rw [if_pos rfl]
      refine ⟨_, rfl, a1, _, 0, _, rfl, rfl, SqT.of ha1, atI_nat (j := 0) rfl, _, rfl, _, rfl, a1, _, rfl, .inr (SqT.of ha1), _, 1, rfl, rfl, a1, _, _, _, rfl, rfl, SqT.of ha1, at9, (by show 2 ≤ sizeLine; decide), fun q nq => ?_⟩
      have nqL : q ≠ LL := (ne_of_none hLL nq).symm
      have sq := sadd (o := .tup [.str z1, vb]) (Same.refl H3) nq
      have hLL' : upd H3 q (.tup [.str z1, vb]) LL = some (.lst (prs.map V.ref)) := sq _ _ hLL
      have hq : upd H3 q (.tup [.str z1, vb]) q = some (.tup [.str z1, vb]) := upd_same
      generalize upd H3 q (.tup [.str z1, vb]) = H4 at sq hLL' hq ⊢
      have kt : ∀ (o : List V) r xs, H4 r = some (.tup xs) → upd H4 LL (.lst o) r = some (.tup xs) := fun o r xs e => (upd_ne (ne_of e hLL' (fun y => nomatch y))).trans e
      refine ⟨prs.map V.ref, hLL', by rw [List.length_map]; omega, Same.updL (s2.trans sq) nLL0, kt _ _ _ (sq _ _ hp2), (hd2.same sq).mono (kt _), prs ++ [q], kvs ++ [(Sum.inr z1, vb)], by rw [List.map_append]; exact upd_same, ?_, ?_⟩
      · refine Paired.snoc (pd_imp hpr fun r kv e => kt _ _ _ (sq _ _ e)) (kt _ _ _ hq)
      · rw [List.take_add_one, hpt]
        exact Paired.snoc (BdAt.mono hbd fun r xs e => kt _ _ _ (sq _ _ e)) ⟨rfl, by
          rw [show bdD (.tuple (.str z1 :: (mid ++ [bd]))) = bd from bdD_snoc (.str z1 :: mid) bd]
          exact (g2.same sq).mono (kt _)⟩
    case done =>
      rintro H2 ⟨s2, hp2, hd2, prs, kvs, hLL, hpr, hbd⟩
      rw [hd.len, List.take_length] at hbd
      refine ⟨LL, prs, kvs, rfl, SqL.of hLL, pd_imp hpr fun r kv e => SqT.of e, fun d nd => ?_⟩
      have un := hR.un
      have nk : ((([] : List (Key × V)) ++ kvs).map (·.1)).Nodup := by
        rw [List.nil_append, hbd.keys]
        exact List.Pairwise.map _ (fun x y h e => h (by injection e)) un
      rw [merge_new kvs [] nk, List.nil_append]
      have sd := sadd (o := .dK kvs) (Same.refl H2) nd
      exact k d kvs _ (s2.trans sd) (s2.free nd) upd_same (hbd.mono fun q xs e => sd _ _ e)
end
end OH
end
section
set_option Elab.async false
set_option linter.all false
set_option maxRecDepth 100000
set_option maxHeartbeats 8000000
/-! The law's walk along runs. -/
namespace OH
open PySem PySem.Spec PyProof.Rows L2
/-- a room of the law's: few runs in each body, and names that can be laid -/
structure LwR (H : Hp) (v : V) (z : Str) (i b : PyData) (fs ds : List PyData) : Prop where
  rm : RmAt NoZ H v z i b fs ds
  ok : RoOk fs ds
  st : ∀ p ∈ fs ++ ds, PyData.strOk (nameB p) = true
  fw : ∀ p ∈ fs ++ ds, (runsP p).length ≤ 50
theorem LwR.same {H H' : Hp} {v : V} {z : Str} {i b : PyData} {fs ds : List PyData} (h : LwR H v z i b fs ds) (s : Same H H') : LwR H' v z i b fs ds := ⟨h.rm.same s, h.ok, h.st, h.fw⟩
theorem dp_strs {K : PySem.W.Frag} {H : Hp} : ∀ zs : List Str, DpAll K H (zs.map V.str) (zs.map PyData.str)
  | [] => .nil
  | z :: zs => .cons (.str z) (dp_strs zs)
theorem flat_strs {zs : List Str} (h : ∀ z ∈ zs, PyData.strOk z = true) : Flat (zs.map PyData.str) := fun d m => by
  obtain ⟨z, hz, rfl⟩ := List.mem_map.mp m
  exact ⟨by simp [PyData.canLay0, h z hz], by show 0 ≤ 60; decide⟩
theorem bd_val {H : Hp} : ∀ {kvs : List (Key × V)} {ps : List PyData}, BdAt H kvs ps → ∀ {g : PyData}, g ∈ ps → (ps.map nameB).Nodup → ∃ x, valV kvs (Sum.inr (nameB g) : Key) = some x ∧ DA NoZ H x (bdD g)
  | _, _, .nil, g, m, _ => absurd m List.not_mem_nil
  | (k, x) :: kvs, p :: ps, .cons a t, g, m, n => by
    obtain ⟨e, hd⟩ := a
    obtain rfl : k = Sum.inr (nameB p) := e
    rw [List.map_cons, List.nodup_cons] at n
    rcases List.mem_cons.mp m with rfl | m
    · exact ⟨x, by simp [valV], hd⟩
    · obtain ⟨y, hy, hd2⟩ := bd_val t m n.2
      have ne : ¬ (Sum.inr (nameB p) : Key) = Sum.inr (nameB g) := fun e => n.1 (by
        injection e with e
        rw [e]
        exact List.mem_map.mpr ⟨g, m, rfl⟩)
      exact ⟨y, by rw [← hy]; simp [valV, ne], hd2⟩
/-- closed under runs -/
theorem reach_closed {ps : List PyData} {zs : List Str} (hc : ∀ z ∈ zs, ∀ g, partOf ps (.str z) = some g → ∀ y ∈ runsP g, y ∈ zs) {q : PyData} {y : Str} (r : Reach ps q y) : ∀ z0 ∈ zs, partOf ps (.str z0) = some q → y ∈ zs := by
  induction r with
  | one h => exact fun z0 m e => hc z0 m _ e _ h
  | more h hq _ ih => exact fun z0 m e => ih _ (hc z0 m _ e _ h) hq
theorem paired_nth {α β : Type} {F : α → β → Prop} : ∀ {l : List α} {m : List β}, Paired F l m → ∀ {j : Nat} {x : α}, l[j]? = some x → ∃ y, m[j]? = some y ∧ F x y
  | _, _, .nil, j, x, h => by cases j <;> cases h
  | _, _, .cons f _, 0, x, h => by cases h; exact ⟨_, rfl, f⟩
  | _, _, .cons _ t, j + 1, x, h => paired_nth t (j := j) h
def spLed : Sp := fun vs H Q _ => ∃ (v : V) (z : Str) (i b p : PyData) (fs ds : List PyData), vs = [v, .str (nameB p)] ∧ LwR H v z i b fs ds ∧ p ∈ fs ++ ds ∧
  ∀ (l : Addr) (zs : List Str) (H' : Hp), Same H H' → H l = none → H' l = some (.lst (zs.map V.str)) → zs.Nodup → (∀ y, y ∈ zs ↔ y = nameB p ∨ Reach (fs ++ ds) p y) → zs.length ≤ 7 → Q (.ref l) H'
section
variable {P : Program} {w : World} {K : PySem.W.Frag} {mg : Str → Option Value} {base : Heap}
abbrev nLd : List Str := ["room", "part", "bodies", "found", "todo", "turn", "name", "node", "deep"]
theorem sc_led : FnScope nLd ["room", "part"] (defScope s__law_led_to) := ⟨rfl, rfl, rfl, by decide +kernel, rfl, by decide +kernel, by decide +kernel⟩
theorem ok_led {f : Addr} {fd : FuncData} (F : Fun K "_law_led_to" "_law_led_to" s__law_led_to f fd) (T : Txt K mg) (DB : DefF P w K mg base CX0 1 "_law_bodies" ["room"] spBodies) (DR : DefF P w K mg base CX0 15 "_law_reading" ["body", "deep"] (spReading 12)) :
    FnOk P w K mg base CX0 16 f fd ["room", "part"] spLed := by
  refine F.ok sc_led (fun vs H Q E h => ?_) (fun cdv A outer s H vs Q E hr h => ?_)
  · obtain ⟨v, z, i, b, p, fs, ds, rfl, _⟩ := h
    rfl
  · obtain ⟨v, z, i, b, p, fs, ds, rfl, hR, hp, k⟩ := h
    have nd0 := sc_led.nd
    have hr1 : Room 1 _ := hr.mono (by decide)
    have hu := Room_u65 hr
    have hu1 := Nat.lt_of_le_of_lt (Nat.add_le_add_left (show 1 ≤ 65 by decide) _) hu
    refine ⟨_, pss_cons (ps_par3 (i := 2) (j := 3) (l := 4) (by rfl) nd0 rfl rfl rfl (by decide) (by decide) (by decide) rfl rfl rfl (pa_cons (pe_cD DB hr1 rfl pass0 (pa_cons (pv 0) pa_nil)) (pa_cons (pe_lst pa_nil) (pa_cons (pe_lst (pa_cons (pv 1) pa_nil)) pa_nil))) (by rfl))
      (pss_cons (ps_for PassesOwn.never rfl (pi_range1 rfl T.nRange (pa_cons pe_int pa_nil)) (pg_name (i := 5) nd0 rfl (Or.inl rfl))
        (pss_cons (ps_if (pt_cmpR (op_eqD hr.units) (pv 4) (pe_lst pa_nil) (nomark _)) (pss_one ps_break) pss_nil)
        (pss_cons (ps_set (i := 6) nd0 rfl (Or.inl rfl) (pe_bm0 PySem.F.plainAttrs_list PySem.F.slot_list_pop PySem.F.type_list_pop mt_pop (pv 4)))
        (pss_one (ps_if (pt_cmpR (op_notInD hu) (pv 6) (pv 3) (by rfl))
          (pss_cons (ps_expr (pe_bm PySem.F.plainAttrs_list PySem.F.slot_list_append PySem.F.type_list_append mt_append (pv 3) (pa_cons (pv 6) pa_nil)))
          (pss_one (ps_expr (pe_bm PySem.F.plainAttrs_list PySem.F.slot_list_extend PySem.F.type_list_extend mt_extend (pv 4)
            (pa_cons (pe_lc (own := [("node", 7), ("deep", 8)]) (g := gTup K 2 (gCons (gName 7) (gCons (gName 8) gNil))) (tt := tTest (tOp rEq (tOp (rIxT K) (tVar 7) (tC (.int 0))) (tC (.str "run")))) (te := tOp (rIxT K) (tVar 7) (tC (.int 1))) rfl nd0
              (pi_list (pe_cD DR hr rfl pass0 (pa_cons (pe_dget hu1 (pv 2) (pv 6) (fun _ _ => rfl)) (pa_cons pe_int pa_nil)))) (blkOk_by (own := [("node", 7), ("deep", 8)]) (N := nLd) (sc := defScope s__law_led_to) (by decide +kernel))
              (fun _ _ _ _ _ => pg_tup (by rfl) (pgs_cons (pg_name (i := 7) nd0 rfl (Or.inl rfl)) (pgs_cons (pg_name (i := 8) nd0 rfl (Or.inl rfl)) pgs_nil)))
              (fun _ _ _ _ _ => pts_one (pt_cmpR op_eq (pe_ix ix_tup (pv 7) pe_int (fun _ _ => rfl)) pe_str (nomark _)))
              (fun _ _ _ _ _ => pe_ix ix_tup (pv 7) pe_int (fun _ _ => rfl))) pa_nil)))))
          pss_nil)))))
      (pss_one (ps_ret (pv 3)))), ?_⟩
    have un := hR.rm.un
    have sL := sizeLine_eq
    obtain ⟨jp, _, ptp⟩ := part_pt hR.ok hR.rm.lf hp
    have hpo := partOf_mem un hp
    have who : ∀ y, (y = nameB p ∨ Reach (fs ++ ds) p y) → ∃ g, g ∈ fs ++ ds ∧ nameB g = y ∧ partOf (fs ++ ds) (.str y) = some g ∧ (g = p ∨ g ∈ fs) := fun y h => by
      rcases h with rfl | h
      · exact ⟨p, hp, rfl, hpo, .inl rfl⟩
      · obtain ⟨g, m, rfl⟩ := List.mem_map.mp (reach_fn un hR.ok h ptp)
        exact ⟨g, List.mem_append_left _ m, rfl, partOf_mem un (List.mem_append_left _ m), .inr m⟩
    have sok : ∀ ys : List Str, (∀ y ∈ ys, y = nameB p ∨ Reach (fs ++ ds) p y) → Flat (ys.map PyData.str) := fun ys h => flat_strs fun y m => by
      obtain ⟨g, mg1, rfl, _⟩ := who y (h y m)
      exact hR.st g mg1
    have few : ∀ ys : List Str, ys.Nodup → (∀ y ∈ ys, y = nameB p ∨ Reach (fs ++ ds) p y) → ys.length ≤ 7 := fun ys n h => by
      have q := len_sub (ls := nameB p :: fs.map nameB) n fun y m => by
        rcases h y m with e | r
        · rw [e]; exact List.mem_cons_self
        · exact List.mem_cons_of_mem _ (reach_fn un hR.ok r ptp)
      rw [List.length_cons, List.length_map] at q
      have := hR.rm.lf
      omega
    refine ⟨_, rfl, v, z, i, b, fs, ds, rfl, hR.rm, fun bd kvs H1 s1 nbd hbd bdat => ?_⟩
    refine ⟨(by show 0 ≤ sizeLine; decide), fun fo nfo => ⟨_, rfl, (by show 1 ≤ sizeLine; decide), fun to nto => ⟨_, _, _, rfl, ?_⟩⟩⟩
    have sfo := sadd (o := .lst []) (Same.refl H1) nfo
    have nto1 : H1 to = none := sfo.free nto
    have ntf : to ≠ fo := fun e => by rw [e, upd_same] at nto; cases nto
    have s2 : Same H1 (upd (upd H1 fo (.lst [])) to (.lst [.str (nameB p)])) := Same.updL sfo nto1
    have hfo2 : upd (upd H1 fo (.lst [])) to (.lst [.str (nameB p)]) fo = some (.lst []) := (upd_ne ntf.symm).trans upd_same
    have hto2 : upd (upd H1 fo (.lst [])) to (.lst [.str (nameB p)]) to = some (.lst [.str (nameB p)]) := upd_same
    generalize upd (upd H1 fo (.lst [])) to (.lst [.str (nameB p)]) = H2 at s2 hfo2 hto2 ⊢
    refine ⟨400, rfl, (by decide), (by decide), ?_⟩
    refine for_range (lo := 0) (fun n σ H' => ∃ (o5 o6 : Option V) (zs ts : List Str), σ = [some v, some (.str (nameB p)), some (.ref bd), some (.ref fo), some (.ref to), o5, o6, none, none] ∧ Same H1 H' ∧ H' fo = some (.lst (zs.map V.str)) ∧ H' to = some (.lst (ts.map V.str)) ∧
        zs.Nodup ∧ (∀ y ∈ zs ++ ts, y = nameB p ∨ Reach (fs ++ ds) p y) ∧ (∀ z ∈ zs, ∀ g, partOf (fs ++ ds) (.str z) = some g → ∀ y ∈ runsP g, y ∈ zs ++ ts) ∧ nameB p ∈ zs ++ ts ∧ n + ts.length ≤ 1 + 50 * zs.length)
      ⟨none, none, [], [nameB p], rfl, s2, hfo2, hto2, List.nodup_nil, (fun y m => .inl (List.mem_singleton.mp m)), (fun z m => absurd m List.not_mem_nil), List.mem_singleton.mpr rfl, Nat.le_refl _⟩ ?turn ?done
    case done =>
      rintro σ H3 ⟨o5, o6, zs, ts, rfl, s3, hfo, hto, nk, sub, cl, pin, cnt⟩
      have := few zs nk fun y m => sub y (List.mem_append_left _ m)
      have c : (400 : Int).toNat + ts.length ≤ 1 + 50 * zs.length := cnt
      have e : (400 : Int).toNat = 400 := rfl
      rw [e] at c
      omega
    case turn =>
      rintro n σ H3 hn ⟨o5, o6, zs, ts, rfl, s3, hfo, hto, nk, sub, cl, pin, cnt⟩
      have zs7 := few zs nk fun y m => sub y (List.mem_append_left _ m)
      refine ⟨_, rfl, (by show 0 ≤ sizeLine; decide), fun l nl => ?_⟩
      have sl := sadd (o := .lst []) (Same.refl H3) nl
      have hl1 : upd H3 l (.lst []) l = some (.lst []) := upd_same
      have hfo4 := sl _ _ hfo
      have hto4 := sl _ _ hto
      have s4 := s3.trans sl
      generalize upd H3 l (.lst []) = H4 at sl hl1 hfo4 hto4 s4 ⊢
      refine ⟨.list (ts.map PyData.str), .list [], .lst (SqL.of hto4) (dp_strs ts), .lst (SqL.of hl1) .nil, (sok ts fun y m => sub y (List.mem_append_right _ m)).shaped, rfl, _, rfl, ?_⟩
      rw [eqv_nil]
      rcases List.eq_nil_or_concat ts with e | ⟨t', x, e⟩
      · subst e
        refine iteT ?_
        rw [List.append_nil] at sub pin
        simp only [List.append_nil] at cl
        refine ⟨_, rfl, k fo zs H4 (s1.trans s4) (s1.free nfo) hfo4 nk (fun y => ⟨sub y, fun h => ?_⟩) zs7⟩
        rcases h with rfl | h
        · exact pin
        · exact reach_closed cl h _ pin hpo
      · rw [List.concat_eq_append] at e
        subst e
        rw [show ((t' ++ [x]).map PyData.str).isEmpty = false by simp]
        refine iteF ?_
        have et : (t' ++ [x]).map V.str = t'.map V.str ++ [.str x] := by rw [List.map_append]; rfl
        rw [et] at hto4
        have tz : to ≠ fo := ntf
        have hx := sub x (List.mem_append_right _ (List.mem_append_right _ (List.mem_singleton.mpr rfl)))
        obtain ⟨g, mg1, eg, hpg, gp⟩ := who x hx
        rw [List.length_append, List.length_singleton] at cnt
        refine ⟨_, rfl, .inl ⟨rfl, _, SqL.of hto4⟩, to, _, .str x, rfl, rfl, hto4, (by rw [List.length_append, List.length_singleton, Nat.add_sub_cancel, List.getElem?_append_right (Nat.le_refl _), Nat.sub_self]; rfl), ?_⟩
        rw [List.dropLast_concat]
        have s5 : Same H1 (upd H4 to (.lst (t'.map V.str))) := Same.updL s4 nto1
        have hto5 : upd H4 to (.lst (t'.map V.str)) to = some (.lst (t'.map V.str)) := upd_same
        have hfo5 : upd H4 to (.lst (t'.map V.str)) fo = some (.lst (zs.map V.str)) := (upd_ne tz.symm).trans hfo4
        generalize upd H4 to (.lst (t'.map V.str)) = H5 at s5 hto5 hfo5 ⊢
        refine ⟨_, rfl, _, rfl, .str x, zs.map PyData.str, .str x, .lst (SqL.of hfo5) (dp_strs zs), shaped_str (by rw [← eg]; exact hR.st g mg1), (sok zs fun y m => sub y (List.mem_append_left _ m)).shaped, _, rfl, ?_⟩
        rw [any_strs]
        by_cases hin : x ∈ zs
        · rw [decide_eq_true hin]
          refine iteF ⟨_, _, zs, t', rfl, s5, hfo5, hto5, nk, fun y m => sub y ?_, fun z1 m1 g1 e1 y my => ?_, ?_, ?_⟩
          · rcases List.mem_append.mp m with m | m
            · exact List.mem_append_left _ m
            · exact List.mem_append_right _ (List.mem_append_left _ m)
          · rcases List.mem_append.mp (cl z1 m1 g1 e1 y my) with m | m
            · exact List.mem_append_left _ m
            · rcases List.mem_append.mp m with m | m
              · exact List.mem_append_right _ m
              · rw [List.mem_singleton.mp m]; exact List.mem_append_left _ hin
          · rcases List.mem_append.mp pin with m | m
            · exact List.mem_append_left _ m
            · rcases List.mem_append.mp m with m | m
              · exact List.mem_append_right _ m
              · rw [List.mem_singleton.mp m]; exact List.mem_append_left _ hin
          · omega
        rw [decide_eq_false hin]
        refine iteT ?_
        refine ⟨_, rfl, .inl ⟨rfl, _, SqL.of hfo5⟩, _, rfl, fo, _, .str x, rfl, rfl, hfo5, (by rw [List.length_map]; omega), ?_⟩
        have s6 : Same H1 (upd H5 fo (.lst (zs.map V.str ++ [.str x]))) := Same.updL s5 nfo
        have hfo6 : upd H5 fo (.lst (zs.map V.str ++ [.str x])) fo = some (.lst (zs.map V.str ++ [.str x])) := upd_same
        have hto6 : upd H5 fo (.lst (zs.map V.str ++ [.str x])) to = some (.lst (t'.map V.str)) := (upd_ne tz).trans hto5
        generalize upd H5 fo (.lst (zs.map V.str ++ [.str x])) = H6 at s6 hfo6 hto6 ⊢
        obtain ⟨xv, hxv, hdx⟩ := bd_val bdat mg1 un
        rw [eg] at hxv
        obtain ⟨jg, _, ptg⟩ := part_pt hR.ok hR.rm.lf mg1
        rw [ptg.bdD] at hdx
        obtain ⟨ba, bxs, rfl, hba, hbs⟩ := hdx.tupE
        have hfw : (nodesIn 12 (bodyD g)).length ≤ 200 := ptg.fw
        have hrw := hR.fw g mg1
        refine ⟨_, rfl, .inl ⟨rfl, _, SqL.of hto6⟩, ?_⟩
        refine ⟨_, rfl, _, rfl, bd, _, rfl, (by rw [← hxv]; exact DGet.k (k := Sum.inr x) (s6 _ _ hbd)), NoZ, Rk fs jg, ba, 1, bxs, bodyD g, rfl, .inl (s6 _ _ hba), hbs.same s6, ptg.nd, by omega, fun lr ps us H7 s67 nlr hlr rd dv => ?_⟩
        refine ⟨lr, rfl, ⟨_, SqL.of hlr⟩, fun LL nLL => ?_⟩
        obtain ⟨nodes, hnodes⟩ : ∃ nodes, nodes = nodesIn 12 (bodyD g) := ⟨_, rfl⟩
        rw [← hnodes] at dv hfw
        have hrn : runsP g = nodes.filterMap isRun := by rw [hnodes]; rfl
        have lus := dv.len
        have lps : ps.length = us.length := Paired.length rd
        refine lc_it (walk_list (xs := ps.map V.ref)) (fun j H' => Same H7 H' ∧ H' LL = some (.lst (((nodes.take j).filterMap isRun).map V.str)))
          ⟨Same.updL (Same.refl H7) nLL, upd_same⟩ (fun j H' _ h => SqL.of (h.1 _ _ hlr)) ?turn2 ?done2
        case turn2 =>
          rintro j x2 H8 H9 hj ⟨s8, hLL⟩ ⟨rfl, hx2⟩
          rw [List.getElem?_map] at hx2
          obtain ⟨p2, hp2, rfl⟩ := Option.map_eq_some_iff.mp hx2
          obtain ⟨u2, hu2, kk, hH2⟩ := paired_nth rd hp2
          obtain ⟨nd, hnd, hdn⟩ := dv.get hu2
          have hdn9 := hdn.same s8
          have fx := nodes_form 12 _ ptg.nd nd (by rw [← hnodes]; exact List.mem_of_getElem? hnd)
          obtain ⟨w1, r, rfl, fi⟩ := fx.inv
          have et2 : nodes.take (j + 1) = nodes.take j ++ [.tuple (.str w1 :: r)] := by rw [List.take_add_one, hnd]; rfl
          obtain ⟨a1, ys, rfl, ha1, hys⟩ := hdn9.tupE
          obtain ⟨v0, vs, rfl, g0, gs⟩ := hys.consE
          obtain rfl : v0 = .str w1 := by cases g0; rfl
          refine ⟨p2, _, rfl, SqT.of (s8 _ _ hH2), rfl, _, _, rfl, _, _, rfl, rfl, rfl, ?_⟩
          refine ⟨_, rfl, a1, _, 0, _, rfl, rfl, SqT.of ha1, atI_nat (j := 0) rfl, rfl, _, rfl, ?_⟩
          by_cases ew : w1 = "run"
          · subst ew
            obtain ⟨z1, es, rfl, _, hz⟩ := fi.run rfl
            obtain ⟨u3, u4, rfl, g1, g2⟩ := gs.two
            obtain rfl : u3 = .str z1 := by cases g1; rfl
            try dsimp only []
            rw [if_pos (by simp)]
            have lacc : (((nodes.take j).filterMap isRun).map V.str).length < sizeLine := by
              have q1 := List.length_filterMap_le isRun (nodes.take j)
              have q2 : (nodes.take j).length ≤ nodes.length := by rw [List.length_take]; exact Nat.min_le_right _ _
              rw [List.length_map]
              omega
            refine ⟨_, rfl, a1, _, 1, _, rfl, rfl, SqT.of ha1, atI_nat (j := 1) rfl, _, hLL, lacc, Same.updL s8 nLL, ?_⟩
            rw [et2, List.filterMap_append, List.map_append, List.filterMap_cons, isRun_run]
            exact upd_same
          · try dsimp only []
            rw [if_neg (by simpa using ew)]
            refine ⟨s8, ?_⟩
            have en : isRun (.tuple (.str w1 :: r)) = none := by
              cases er : isRun (.tuple (.str w1 :: r)) with
              | none => rfl
              | some z =>
                obtain ⟨es, e2⟩ := isRun_eq er
                injection e2 with e2
                injection e2 with e3
                injection e3 with e3
                exact absurd e3 ew
            rw [et2, List.filterMap_append, List.filterMap_cons, en]
            simpa using hLL
        case done2 =>
          rintro H8 ⟨s8, hLL⟩
          rw [List.length_map, lps, lus, List.take_length, ← hrn] at hLL
          have s68 := s67.trans s8
          refine ⟨to, LL, _, _, rfl, rfl, s68 _ _ hto6, hLL, by rw [List.length_map, List.length_map]; omega, ?_⟩
          have hcn : n + 1 + (t' ++ runsP g).length ≤ 1 + 50 * (zs ++ [x]).length := by
            rw [List.length_append, List.length_append, List.length_singleton]
            omega
          have em : ∀ y, y ∈ (zs ++ [x]) ++ (t' ++ runsP g) ↔ (y ∈ zs ++ (t' ++ [x]) ∨ y ∈ runsP g) := fun y => by
            simp only [List.mem_append, List.mem_singleton]
            constructor
            · rintro ((h | h) | h | h)
              · exact .inl (.inl h)
              · exact .inl (.inr (.inr h))
              · exact .inl (.inr (.inl h))
              · exact .inr h
            · rintro ((h | h | h) | h)
              · exact .inl (.inl h)
              · exact .inr (.inl h)
              · exact .inl (.inr h)
              · exact .inr (.inr h)
          refine ⟨_, _, zs ++ [x], t' ++ runsP g, rfl, Same.updL (s6.trans s68) nto1, (upd_ne tz.symm).trans (by rw [List.map_append]; exact s68 _ _ hfo6), by rw [List.map_append]; exact upd_same, ?_, fun y m => ?_, fun z1 m1 g1 e1 y my => ?_, ?_, hcn⟩
          · exact List.nodup_append.mpr ⟨nk, List.nodup_cons.mpr ⟨List.not_mem_nil, List.nodup_nil⟩, fun a ma b mb e => hin (by rw [← List.mem_singleton.mp mb, ← e]; exact ma)⟩
          · rcases (em y).mp m with m | m
            · exact sub y m
            · right
              rcases hx with e | r
              · rw [e, hpo] at hpg
                injection hpg with hpg
                rw [← hpg] at m
                exact .one m
              · exact r.trans hpg (.one m)
          · refine (em y).mpr ?_
            rcases List.mem_append.mp m1 with m1 | m1
            · exact .inl (cl z1 m1 g1 e1 y my)
            · rw [List.mem_singleton.mp m1, hpg] at e1
              injection e1 with e1
              rw [← e1] at my
              exact .inr my
          · exact (em _).mpr (.inl pin)
end
end OH
end
section
set_option Elab.async false
set_option linter.all false
set_option maxRecDepth 100000
set_option maxHeartbeats 8000000
/-! The law's: what some parts ask. -/
namespace OH
open PySem PySem.Spec PyProof.Rows L2
theorem PsAt.app {H : Hp} {bs cs : List Addr} {ys zs : List (Str × Str)} (h : PsAt H bs ys) (g : PsAt H cs zs) : PsAt H (bs ++ cs) (ys ++ zs) := by
  unfold PsAt at h ⊢
  induction h with
  | nil => exact g
  | cons a _ ih => exact .cons a ih
theorem PsAt.mono {H H' : Hp} {bs : List Addr} {ys : List (Str × Str)} (h : PsAt H bs ys) (k : ∀ q xs, H q = some (.tup xs) → H' q = some (.tup xs)) : PsAt H' bs ys := pd_imp h fun _ _ e => k _ _ e
def spAsked : Sp := fun vs H Q _ => ∃ (v : V) (z : Str) (i b : PyData) (fs ds : List PyData) (a : Addr) (zs : List Str), vs = [v, .ref a] ∧ LwR H v z i b fs ds ∧ H a = some (.lst (zs.map V.str)) ∧ (∀ y ∈ zs, y ∈ (fs ++ ds).map nameB) ∧ zs.length ≤ 7 ∧
  ∀ (l : Addr) (ps : List Addr) (qs : List (Str × Str)) (H' : Hp), Same H H' → H l = none → H' l = some (.lst (ps.map V.ref)) → PsAt H' ps qs → (∀ q, q ∈ qs ↔ ∃ y ∈ zs, ∃ g, partOf (fs ++ ds) (.str y) = some g ∧ q ∈ asksP g) → qs.length ≤ 1400 → Q (.ref l) H'
section
variable {P : Program} {w : World} {K : PySem.W.Frag} {mg : Str → Option Value} {base : Heap}
abbrev nAk : List Str := ["room", "names", "bodies", "found", "name", "node", "deep"]
theorem sc_asked : FnScope nAk ["room", "names"] (defScope s__law_asked_in) := ⟨rfl, rfl, rfl, by decide +kernel, rfl, by decide +kernel, by decide +kernel⟩
theorem ok_asked {f : Addr} {fd : FuncData} (F : Fun K "_law_asked_in" "_law_asked_in" s__law_asked_in f fd) (T : Txt K mg) (DB : DefF P w K mg base CX0 1 "_law_bodies" ["room"] spBodies) (DR : DefF P w K mg base CX0 15 "_law_reading" ["body", "deep"] (spReading 12)) :
    FnOk P w K mg base CX0 16 f fd ["room", "names"] spAsked := by
  refine F.ok sc_asked (fun vs H Q E h => ?_) (fun cdv A outer s H vs Q E hr h => ?_)
  · obtain ⟨v, z, i, b, fs, ds, a, zs, rfl, _⟩ := h
    rfl
  · obtain ⟨v, z, i, b, fs, ds, a, zs, rfl, hR, ha, hzs, z7, k⟩ := h
    have nd0 := sc_asked.nd
    have hr1 : Room 1 _ := hr.mono (by decide)
    have hu := Room_u65 hr
    have hu1 := Nat.lt_of_le_of_lt (Nat.add_le_add_left (show 1 ≤ 65 by decide) _) hu
    refine ⟨_, pss_cons (ps_par (i := 2) (j := 3) (by rfl) nd0 rfl rfl (by decide) rfl rfl (pa_cons (pe_cD DB hr1 rfl pass0 (pa_cons (pv 0) pa_nil)) (pa_cons (pe_lst pa_nil) pa_nil)) (by rfl))
      (pss_cons (ps_for PassesOwn.never rfl (pi_list (pv 1)) (pg_name (i := 4) nd0 rfl (Or.inl rfl))
        (pss_one (ps_set (i := 3) nd0 rfl (Or.inl rfl) (pe_op op_cat (pv 3)
          (pe_lc (own := [("node", 5), ("deep", 6)]) (g := gTup K 2 (gCons (gName 5) (gCons (gName 6) gNil))) (tt := tTest (tOp rEq (tOp (rIxT K) (tVar 5) (tC (.int 0))) (tC (.str "ask")))) (te := tSl (rSlT K) (tVar 5) (tPart (tC (.int 1))) (tPart (tC (.int 3)))) rfl nd0
              (pi_list (pe_cD DR hr rfl pass0 (pa_cons (pe_dget hu1 (pv 2) (pv 4) (fun _ _ => rfl)) (pa_cons pe_int pa_nil)))) (blkOk_by (own := [("node", 5), ("deep", 6)]) (N := nAk) (sc := defScope s__law_asked_in) (by decide +kernel))
              (fun _ _ _ _ _ => pg_tup (by rfl) (pgs_cons (pg_name (i := 5) nd0 rfl (Or.inl rfl)) (pgs_cons (pg_name (i := 6) nd0 rfl (Or.inl rfl)) pgs_nil)))
              (fun _ _ _ _ _ => pts_one (pt_cmpR op_eq (pe_ix ix_tup (pv 5) pe_int (fun _ _ => rfl)) pe_str (nomark _)))
              (fun _ _ _ _ _ => pe_slice sl_tup (pv 5) (po_some pe_int) (po_some pe_int)))))))
      (pss_one (ps_ret (pv 3)))), ?_⟩
    have un := hR.rm.un
    have sL := sizeLine_eq
    refine ⟨_, rfl, v, z, i, b, fs, ds, rfl, hR.rm, fun bd kvs H1 s1 nbd hbd bdat => ?_⟩
    refine ⟨(by show 0 ≤ sizeLine; decide), fun fo nfo => ⟨_, _, rfl, ?_⟩⟩
    have s2 := sadd (o := .lst []) (Same.refl H1) nfo
    have hfo2 : upd H1 fo (.lst []) fo = some (.lst []) := upd_same
    generalize upd H1 fo (.lst []) = H2 at s2 hfo2 ⊢
    refine ⟨_, rfl, a, rfl, ⟨_, SqL.of (s2 _ _ (s1 _ _ ha))⟩, ?_⟩
    refine for_list (xs := zs.map V.str) (fun n σ H' => ∃ (o4 : Option V) (fo : Addr) (ps : List Addr) (qs : List (Str × Str)), σ = [some v, some (.ref a), some (.ref bd), some (.ref fo), o4, none, none] ∧ Same H1 H' ∧ H1 fo = none ∧ H' fo = some (.lst (ps.map V.ref)) ∧ PsAt H' ps qs ∧
        (∀ q, q ∈ qs ↔ ∃ y ∈ zs.take n, ∃ g, partOf (fs ++ ds) (.str y) = some g ∧ q ∈ asksP g) ∧ qs.length ≤ 200 * n)
      ⟨none, fo, [], [], rfl, s2, nfo, hfo2, .nil, fun q => ⟨fun m => absurd m List.not_mem_nil, fun ⟨y, m, _⟩ => absurd m List.not_mem_nil⟩, Nat.zero_le _⟩ (fun n σ H' _ ⟨o4, fo, ps, qs, _, c, _⟩ => SqL.of (c _ _ (s1 _ _ ha))) ?turn ?done
    case done =>
      rintro σ H3 ⟨o4, fo, ps, qs, rfl, s3, nfo, hfo, hps, iff, lq⟩
      rw [List.length_map] at lq iff
      rw [List.take_length] at iff
      exact ⟨_, rfl, k fo ps qs H3 (s1.trans s3) (s1.free nfo) hfo hps iff (by omega)⟩
    case turn =>
      rintro n x σ H3 hx ⟨o4, fo, ps, qs, rfl, s3, nfo, hfo, hps, iff, lq⟩
      rw [List.getElem?_map] at hx
      obtain ⟨y, hy, rfl⟩ := Option.map_eq_some_iff.mp hx
      obtain ⟨g, mg1, eg⟩ := List.mem_map.mp (hzs y (List.mem_of_getElem? hy))
      have hpg := partOf_mem un mg1
      rw [eg] at hpg
      have n7 : n < zs.length := (List.getElem?_eq_some_iff.mp hy).1
      obtain ⟨xv, hxv, hdx⟩ := bd_val bdat mg1 un
      rw [eg] at hxv
      obtain ⟨jg, _, ptg⟩ := part_pt hR.ok hR.rm.lf mg1
      rw [ptg.bdD] at hdx
      obtain ⟨ba, bxs, rfl, hba, hbs⟩ := hdx.tupE
      have hfw : (nodesIn 12 (bodyD g)).length ≤ 200 := ptg.fw
      have lps0 : ps.length = qs.length := Paired.length hps
      refine ⟨_, rfl, _, rfl, _, rfl, bd, _, rfl, (by rw [← hxv]; exact DGet.k (k := Sum.inr y) (s3 _ _ hbd)), NoZ, Rk fs jg, ba, 1, bxs, bodyD g, rfl, .inl (s3 _ _ hba), hbs.same s3, ptg.nd, by omega, fun lr ps1 us H7 s67 nlr hlr rd dv => ?_⟩
      refine ⟨lr, rfl, ⟨_, SqL.of hlr⟩, fun LL nLL => ?_⟩
      obtain ⟨nodes, hnodes⟩ : ∃ nodes, nodes = nodesIn 12 (bodyD g) := ⟨_, rfl⟩
      rw [← hnodes] at dv hfw
      have hrn : asksP g = nodes.filterMap isAsk := by rw [hnodes]; rfl
      have lus := dv.len
      have lps : ps1.length = us.length := Paired.length rd
      refine lc_it (walk_list (xs := ps1.map V.ref)) (fun j H' => Same H7 H' ∧ ∃ cs, H' LL = some (.lst (cs.map V.ref)) ∧ PsAt H' cs ((nodes.take j).filterMap isAsk))
        ⟨Same.updL (Same.refl H7) nLL, [], upd_same, .nil⟩ (fun j H' _ h => SqL.of (h.1 _ _ hlr)) ?turn2 ?done2
      case turn2 =>
        rintro j x2 H8 H9 hj ⟨s8, cs, hLL, hcs⟩ ⟨rfl, hx2⟩
        rw [List.getElem?_map] at hx2
        obtain ⟨p2, hp2, rfl⟩ := Option.map_eq_some_iff.mp hx2
        obtain ⟨u2, hu2, kk, hH2⟩ := paired_nth rd hp2
        obtain ⟨nd, hnd, hdn⟩ := dv.get hu2
        have hdn9 := hdn.same s8
        have fx := nodes_form 12 _ ptg.nd nd (by rw [← hnodes]; exact List.mem_of_getElem? hnd)
        obtain ⟨w1, r, rfl, fi⟩ := fx.inv
        have et2 : nodes.take (j + 1) = nodes.take j ++ [.tuple (.str w1 :: r)] := by rw [List.take_add_one, hnd]; rfl
        obtain ⟨a1, ys, rfl, ha1, hys⟩ := hdn9.tupE
        obtain ⟨v0, vs, rfl, g0, gs⟩ := hys.consE
        obtain rfl : v0 = .str w1 := by cases g0; rfl
        refine ⟨p2, _, rfl, SqT.of (s8 _ _ hH2), rfl, _, _, rfl, _, _, rfl, rfl, rfl, ?_⟩
        refine ⟨_, rfl, a1, _, 0, _, rfl, rfl, SqT.of ha1, atI_nat (j := 0) rfl, rfl, _, rfl, ?_⟩
        by_cases ew : w1 = "ask"
        · subst ew
          obtain ⟨z1, z2, ax, rfl, _⟩ := fi.ask rfl
          obtain ⟨u3, u4, u5, rfl, g1, g2, g3⟩ := gs.three
          obtain rfl : u3 = .str z1 := by cases g1; rfl
          obtain rfl : u4 = .str z2 := by cases g2; rfl
          try dsimp only []
          rw [if_pos (by simp)]
          have lacc : (cs.map V.ref).length < sizeLine := by
            have q1 := List.length_filterMap_le isAsk (nodes.take j)
            have q2 : (nodes.take j).length ≤ nodes.length := by rw [List.length_take]; exact Nat.min_le_right _ _
            have q3 := Paired.length hcs
            rw [List.length_map]
            omega
          refine ⟨_, rfl, 1, rfl, 3, rfl, a1, _, rfl, SqT.of ha1, (by rintro ⟨e, _⟩; exact absurd e (by show ¬ HT.sIx 4 0 (some 1) = 0; decide)), fun q nq => ?_⟩
          have ec : cutV [V.str "ask", V.str z1, V.str z2, u5] (some 1) (some 3) = [V.str z1, V.str z2] := rfl
          rw [ec]
          have sq := sadd (o := .tup [.str z1, .str z2]) (Same.refl H9) nq
          have hLLq := sq _ _ hLL
          have hq : upd H9 q (.tup [.str z1, .str z2]) q = some (.tup [.str z1, .str z2]) := upd_same
          generalize upd H9 q (.tup [.str z1, .str z2]) = H10 at sq hLLq hq ⊢
          have kt : ∀ (o : List V) r xs, H10 r = some (.tup xs) → upd H10 LL (.lst o) r = some (.tup xs) := fun o r xs e => (upd_ne (ne_of e hLLq (fun y => nomatch y))).trans e
          refine ⟨_, hLLq, lacc, Same.updL (s8.trans sq) nLL, cs ++ [q], by rw [List.map_append]; exact upd_same, ?_⟩
          rw [et2, List.filterMap_append, List.filterMap_cons, isAsk_ask]
          exact PsAt.app (PsAt.mono hcs fun r xs e => kt _ _ _ (sq _ _ e)) (.cons (kt _ _ _ hq) .nil)
        · try dsimp only []
          rw [if_neg (by simpa using ew)]
          refine ⟨s8, cs, hLL, ?_⟩
          rw [et2, List.filterMap_append, List.filterMap_cons, isAsk_not ew]
          simpa using hcs
      case done2 =>
        rintro H8 ⟨s8, cs, hLL, hcs⟩
        rw [List.length_map, lps, lus, List.take_length, ← hrn] at hcs
        have s68 := s67.trans s8
        have lcs : cs.length = (asksP g).length := Paired.length hcs
        have lag : (asksP g).length ≤ 200 := by
          have := List.length_filterMap_le isAsk nodes
          rw [hrn]
          omega
        refine ⟨fo, LL, _, _, rfl, rfl, s68 _ _ hfo, hLL, by rw [List.length_map, List.length_map]; omega, fun l2 nl2 => ?_⟩
        have s8l := sadd (o := .lst (ps.map V.ref ++ cs.map V.ref)) (Same.refl H8) nl2
        have s38 := s3.trans s68
        refine ⟨_, l2, ps ++ cs, qs ++ asksP g, rfl, s38.trans s8l, s38.free nl2, by rw [List.map_append]; exact upd_same, (PsAt.app (hps.same s68) hcs).same s8l, fun q => ?_, by rw [List.length_append]; omega⟩
        rw [List.mem_append, iff q, List.take_add_one, hy]
        constructor
        · rintro (⟨y1, m, h⟩ | h)
          · exact ⟨y1, List.mem_append_left _ m, h⟩
          · exact ⟨y, List.mem_append_right _ (List.mem_singleton.mpr rfl), g, hpg, h⟩
        · rintro ⟨y1, m, g1, e1, h⟩
          rcases List.mem_append.mp m with m | m
          · exact .inl ⟨y1, m, g1, e1, h⟩
          · rw [List.mem_singleton.mp m, hpg] at e1
            injection e1 with e1
            rw [← e1] at h
            exact .inr h
end
end OH
end
section
set_option Elab.async false
set_option linter.all false
set_option maxRecDepth 100000
set_option maxHeartbeats 8000000
/-! The law's drawn expressions. -/
namespace OH
open PySem PySem.Spec PyProof.Rows L2
abbrev fnD (f : Str × Nat) : PyData := .tuple [.str f.1, .int (f.2 : Nat)]
abbrev imD (q : Str × Str) : PyData := .tuple [.str q.1, .str q.2]
/-- what is drawn -/
inductive MV (fns : List (Str × Nat)) (ims : List (Str × Str)) : Nat → PyData → Prop
  | num (k : Nat) (z : Int) (h0 : 0 ≤ z) (h1 : z ≤ 9999) : MV fns ims k (.tuple [.str "number", .int z])
  | run (k : Nat) (f : Str × Nat) (es : List PyData) (hf : f ∈ fns) (hl : es.length = f.2) (he : ∀ e ∈ es, MV fns ims k e) : MV fns ims (k + 1) (.tuple [.str "run", .str f.1, .tuple es])
  | ask (k : Nat) (q : Str × Str) (e : PyData) (hq : q ∈ ims) (he : MV fns ims k e) : MV fns ims (k + 1) (.tuple [.str "ask", .str q.1, .str q.2, e])
  | plus (k : Nat) (a b : PyData) (ha : MV fns ims k a) (hb : MV fns ims k b) : MV fns ims (k + 1) (.tuple [.str "plus", a, b])
def usedV : Nat → Nat
  | 0 => 3
  | k + 1 => 2 * usedV k + 2
theorem usedV_pos (k : Nat) : 3 ≤ usedV k := by
  induction k with
  | zero => exact Nat.le_refl _
  | succ k ih => show 3 ≤ 2 * usedV k + 2; omega
/-- functions and doors to draw from, in lists -/
structure MxA (H : Hp) (g fa ia : Addr) (fns : List (Str × Nat)) (ims : List (Str × Str)) : Prop where
  fx : ∃ xs, H fa = some (.lst xs) ∧ DAs NoZ H xs (fns.map fnD)
  fg : fa ≠ g
  ix : ∃ ys, H ia = some (.lst ys) ∧ DAs NoZ H ys (ims.map imD)
  ig : ia ≠ g
  fl : fns.length ≤ 7
  il : ims.length ≤ 6
  fo : ∀ f ∈ fns, f.2 ≤ 2 ∧ PyData.strOk f.1 = true
  io : ∀ q ∈ ims, PyData.strOk q.1 = true ∧ PyData.strOk q.2 = true
theorem MxA.fr {H H' : Hp} {st g c fa ia : Addr} {n : Nat} {fns : List (Str × Nat)} {ims : List (Str × Str)} (M : MxA H g fa ia fns ims) (S : SA H st g c n) (F : Fr st g H H') : MxA H' g fa ia fns ims := by
  obtain ⟨xs, h1, h2⟩ := M.fx
  obtain ⟨ys, h3, h4⟩ := M.ix
  exact ⟨⟨xs, F _ _ h1 (S.ne_st h1 (fun _ z => nomatch z)) M.fg, h2.mono (fr_tup S F)⟩, M.fg, ⟨ys, F _ _ h3 (S.ne_st h3 (fun _ z => nomatch z)) M.ig, h4.mono (fr_tup S F)⟩, M.ig, M.fl, M.il, M.fo, M.io⟩
theorem MxA.same {H H' : Hp} {g fa ia : Addr} {fns : List (Str × Nat)} {ims : List (Str × Str)} (M : MxA H g fa ia fns ims) (s : Same H H') : MxA H' g fa ia fns ims := by
  obtain ⟨xs, h1, h2⟩ := M.fx
  obtain ⟨ys, h3, h4⟩ := M.ix
  exact ⟨⟨xs, s _ _ h1, h2.same s⟩, M.fg, ⟨ys, s _ _ h3, h4.same s⟩, M.ig, M.fl, M.il, M.fo, M.io⟩
theorem MxA.flatF {H : Hp} {g fa ia : Addr} {fns : List (Str × Nat)} {ims : List (Str × Str)} (M : MxA H g fa ia fns ims) : Flat (fns.map fnD) := fun d m => by
  obtain ⟨f, hf, rfl⟩ := List.mem_map.mp m
  exact ⟨by simp [PyData.canLay0, PyData.canLayAll0, (M.fo f hf).2], by show 1 ≤ 60; decide⟩
theorem MxA.flatI {H : Hp} {g fa ia : Addr} {fns : List (Str × Nat)} {ims : List (Str × Str)} (M : MxA H g fa ia fns ims) : Flat (ims.map imD) := fun d m => by
  obtain ⟨q, hq, rfl⟩ := List.mem_map.mp m
  exact ⟨by simp [PyData.canLay0, PyData.canLayAll0, (M.io q hq).1, (M.io q hq).2], by show 1 ≤ 60; decide⟩
def spMix (k : Nat) : Sp := fun vs H Q _ => ∃ (st g c fa ia : Addr) (n : Nat) (fns : List (Str × Nat)) (ims : List (Str × Str)), vs = [.ref st, .ref fa, .ref ia, .int (3 - (k : Int))] ∧ k ≤ 3 ∧ SA H st g c n ∧ n + usedV k ≤ 700000 ∧ MxA H g fa ia fns ims ∧
  ∀ x dx H', DA NoZ H' x dx → MV fns ims k dx → SA H' st g c (n + usedV k) → Fr st g H H' → Q x H'
def spMixN : Nat → Sp
  | 0 => fun _ _ _ _ => False
  | k + 1 => spMix k
section
variable {P : Program} {w : World} {K : PySem.W.Frag} {mg : Str → Option Value} {base : Heap}
abbrev nMv : List Str := ["state", "functions", "imports", "deep", "kind", "name", "many", "label", "door", "one", "spot"]
abbrev pMv : List Str := ["state", "functions", "imports", "deep"]
theorem sc_mix : FnScope nMv pMv (defScope s__law_mixed_value) := ⟨rfl, rfl, rfl, by decide +kernel, rfl, by decide +kernel, by decide +kernel⟩
theorem ok_mix_step {f : Addr} {fd : FuncData} (k : Nat) (F : Fun K "_law_mixed_value" "_law_mixed_value" s__law_mixed_value f fd) (T : Txt K mg) (DD : DefF P w K mg base CX0 4 "_law_draw" ["state", "room"] spDraw) (DP : DefF P w K mg base CX0 4 "_law_pick" ["state", "some"] spPick) (DM : DefF P w K mg base CX0 4 "_law_small" ["state"] (spNo 2))
    (DV : DefF P w K mg base CX0 (k + 4) "_law_mixed_value" pMv (spMixN k)) : FnOk P w K mg base CX0 (k + 5) f fd pMv (spMix k) := by
  refine F.ok sc_mix (fun vs H Q E h => ?_) (fun cdv A outer s H vs Q E hr h => ?_)
  · obtain ⟨st, g, c, fa, ia, n, fns, ims, rfl, _⟩ := h
    rfl
  · obtain ⟨st, g, c, fa, ia, n, fns, ims, rfl, k3, S, hn, M, kk⟩ := h
    have nd0 := sc_mix.nd
    have hr4 : Room 4 _ := hr.mono (show 4 ≤ k + 4 by omega)
    refine ⟨_, pss_cons (ps_set (i := 4) nd0 rfl (Or.inl rfl) (pe_cD DD hr4 rfl pass0 (pa_cons (pv 0) (pa_cons pe_int pa_nil))))
      (pss_cons (ps_if (PW.pt (pw_or (pt_cmpR op_gt (pv 3) pe_int (nomark _)) (pw_or1 (pt_cmpR op_eq (pv 4) pe_int (nomark _))))) (pss_one (ps_ret (pe_tup (pa_cons pe_str (pa_cons (pe_cD DM hr4 rfl pass0 (pa_cons (pv 0) pa_nil)) pa_nil))))) pss_nil)
      (pss_cons (ps_if (PW.pt (pw_and (pt_cmpR op_lt (pv 4) pe_int (nomark _)) (pw_and1 (pt_cmpR (op_neD hr.units) (pv 1) (pe_lst pa_nil) (nomark _)))))
        (pss_cons (ps_asg (pe_cD DP hr4 rfl pass0 (pa_cons (pv 0) (pa_cons (pv 1) pa_nil))) (pg_tup (by rfl) (pgs_cons (pg_name (i := 5) nd0 rfl (Or.inl rfl)) (pgs_cons (pg_name (i := 6) nd0 rfl (Or.inl rfl)) pgs_nil))))
        (pss_one (ps_ret (pe_tup (pa_cons pe_str (pa_cons (pv 5) (pa_cons (pe_callTy call_tuple_of (by rfl) T.nTuple (by decide +kernel) (pa_cons
          (pe_lc (own := [("spot", 10)]) (g := gName 10) (tt := tYes) (te := tCall (spMixN k) [] E0 (tCons (tVar 0) (tCons (tVar 1) (tCons (tVar 2) (tCons (tOp (rI0 fun i j => .int (i + j)) (tVar 3) (tC (.int 1))) tNil))))) rfl nd0 (pi_range1 rfl T.nRange (pa_cons (pv 6) pa_nil))
            (blkOk_by (own := [("spot", 10)]) (N := nMv) (sc := defScope s__law_mixed_value) (by decide +kernel)) (fun _ _ _ _ _ => pg_name (i := 10) nd0 rfl (Or.inl rfl)) (fun _ _ _ _ _ => pts_nil)
            (fun _ _ _ _ _ => pe_cD DV hr rfl pass0 (pa_cons (pv 0) (pa_cons (pv 1) (pa_cons (pv 2) (pa_cons (pe_op op_add (pv 3) pe_int) pa_nil)))))) pa_nil)) pa_nil)))))))
        pss_nil)
      (pss_cons (ps_if (PW.pt (pw_and (pt_cmpR op_lt (pv 4) pe_int (nomark _)) (pw_and1 (pt_cmpR (op_neD hr.units) (pv 2) (pe_lst pa_nil) (nomark _)))))
        (pss_cons (ps_asg (pe_cD DP hr4 rfl pass0 (pa_cons (pv 0) (pa_cons (pv 2) pa_nil))) (pg_tup (by rfl) (pgs_cons (pg_name (i := 7) nd0 rfl (Or.inl rfl)) (pgs_cons (pg_name (i := 8) nd0 rfl (Or.inl rfl)) pgs_nil))))
        (pss_one (ps_ret (pe_tup (pa_cons pe_str (pa_cons (pv 7) (pa_cons (pv 8) (pa_cons (pe_cD DV hr rfl pass0 (pa_cons (pv 0) (pa_cons (pv 1) (pa_cons (pv 2) (pa_cons (pe_op op_add (pv 3) pe_int) pa_nil))))) pa_nil))))))))
        pss_nil)
      (pss_cons (ps_set (i := 9) nd0 rfl (Or.inl rfl) (pe_cD DV hr rfl pass0 (pa_cons (pv 0) (pa_cons (pv 1) (pa_cons (pv 2) (pa_cons (pe_op op_add (pv 3) pe_int) pa_nil))))))
      (pss_one (ps_ret (pe_tup (pa_cons pe_str (pa_cons (pv 9) (pa_cons (pe_cD DV hr rfl pass0 (pa_cons (pv 0) (pa_cons (pv 1) (pa_cons (pv 2) (pa_cons (pe_op op_add (pv 3) pe_int) pa_nil))))) pa_nil)))))))))), ?_⟩
    have sL := sizeLine_eq
    have up := usedV_pos k
    refine ⟨_, rfl, st, g, c, n, 6, rfl, S, by omega, by decide, by decide, fun kd H1 kd0 kd1 S1 F1 => ?_⟩
    refine ⟨_, rfl, _, _, rfl, rfl, _, rfl, ?_⟩
    have numQ : ∀ z H2, 0 ≤ z → z ≤ 9999 → SA H2 st g c (n + 1 + 2) → Fr st g H H2 → ∀ q, H2 q = none → Q (.ref q) (upd H2 q (.tup [.str "number", .int z])) := fun z H2 z0 z1 S2 F2 q nq => by
      have zq := S2.old nq
      exact kk _ _ _ (DA.tup upd_same (.cons (.str _ (by decide)) (.cons (.int z) .nil))) (.num k z z0 z1) ((S2.put zq).mono (by omega)) (F2.out (F2.free nq zq.1 zq.2.1))
    by_cases k0 : k = 0
    · rw [decide_eq_true (show (2 : Int) < 3 - (k : Int) by omega)]
      exact iteT (iteT ⟨_, rfl, st, g, c, n + 1, rfl, S1, by omega, fun z H2 z0 z1 S2 F2 => ⟨(by show 2 ≤ sizeLine; decide), fun q nq => numQ z H2 z0 z1 S2 (F1.trans F2) q nq⟩⟩)
    rw [decide_eq_false (show ¬ (2 : Int) < 3 - (k : Int) by omega)]
    refine iteF ⟨_, rfl, rfl, _, rfl, ?_⟩
    by_cases kz : kd = 0
    · rw [decide_eq_true (show V.int kd = V.int 0 by rw [kz])]
      exact iteT ⟨_, rfl, st, g, c, n + 1, rfl, S1, by omega, fun z H2 z0 z1 S2 F2 => ⟨(by show 2 ≤ sizeLine; decide), fun q nq => numQ z H2 z0 z1 S2 (F1.trans F2) q nq⟩⟩
    rw [decide_eq_false (show ¬ V.int kd = V.int 0 by intro e; injection e with e; exact kz e)]
    refine iteF ?_
    obtain ⟨k, rfl⟩ : ∃ k', k = k' + 1 := ⟨k - 1, by omega⟩
    have e3 : 3 - ((k + 1 : Nat) : Int) + 1 = 3 - (k : Int) := by omega
    have eu : usedV (k + 1) = 2 * usedV k + 2 := rfl
    have M1 := M.fr S F1
    have u38 : usedV k ≤ 22 := by
      have : k = 0 ∨ k = 1 ∨ k = 2 := by omega
      rcases this with e | e | e <;> rw [e] <;> decide
    refine ⟨_, rfl, _, _, rfl, rfl, _, rfl, ?_⟩
    refine' cutH (A := fun H2 => SA H2 st g c (n + 1) ∧ Fr st g H H2) (fun key1 => ?_) ?_
    rotate_left
    · by_cases h3 : kd < 3
      · rw [decide_eq_true h3]
        refine iteT ⟨_, rfl, (by show 0 ≤ sizeLine; decide), fun e ne => ?_⟩
        have se := sadd (o := .lst []) (Same.refl H1) ne
        have S2 := S1.same se
        have F2 := F1.trans (Fr.of se)
        have M2 := M1.same se
        have he : upd H1 e (.lst []) e = some (.lst []) := upd_same
        generalize upd H1 e (.lst []) = H2 at se S2 F2 M2 he ⊢
        obtain ⟨xs, hfx, hxs⟩ := M2.fx
        refine ⟨.list (fns.map fnD), .list [], .lst (SqL.of hfx) hxs.dp, .lst (SqL.of he) .nil, M.flatF.shaped, rfl, _, rfl, ?_⟩
        rw [eqv_nil]
        by_cases fe : fns = []
        · rw [show (fns.map fnD).isEmpty = true by rw [fe]; rfl]
          exact iteF (key1 H2 ⟨S2, F2⟩)
        · rw [show (fns.map fnD).isEmpty = false by cases fns with | nil => exact absurd rfl fe | cons _ _ => rfl]
          have lx := hxs.len
          rw [List.length_map] at lx
          have pos : 0 < fns.length := List.length_pos_iff.mpr fe
          have fl := M.fl
          refine iteT ⟨_, rfl, _, rfl, st, g, c, fa, n + 1, xs, rfl, S2, by omega, hfx, M.fg, by omega, by omega, fun x H3 hx S3 F3 => ?_⟩
          have M3 := M2.fr S2 F3
          obtain ⟨j, hj⟩ := List.mem_iff_getElem?.mp hx
          obtain ⟨d, hd, hda⟩ := (hxs.mono (fr_tup S2 F3)).get hj
          rw [List.getElem?_map] at hd
          obtain ⟨fn, hfn, rfl⟩ := Option.map_eq_some_iff.mp hd
          have hfm := List.mem_of_getElem? hfn
          obtain ⟨f2, fs1⟩ := M.fo fn hfm
          obtain ⟨pa, ys, rfl, hpa, hys⟩ := hda.tupE
          obtain ⟨u1, u2, rfl, g1, g2⟩ := hys.two
          have zl1 : fn.1.length ≤ 1000 := by cases g1 with | str _ h => exact h
          obtain rfl : u1 = .str fn.1 := by cases g1; rfl
          obtain rfl : u2 = .int (fn.2 : Nat) := by cases g2; rfl
          refine ⟨pa, _, rfl, SqT.of hpa, rfl, _, _, rfl, _, _, rfl, rfl, ?_⟩
          refine ⟨_, rfl, _, rfl, (fn.2 : Int), rfl, by omega, by omega, fun LL nLL => ?_⟩
          have zLL := S3.old nLL
          have F03 := F2.trans F3
          have nLL0 : H LL = none := F03.free nLL zLL.1 zLL.2.1
          refine lc_it (walk_range (lo := 0) (n := (fn.2 : Int).toNat)) (fun j H' => ∃ acc ds, H' LL = some (.lst acc) ∧ DAs NoZ H' acc ds ∧ (∀ e ∈ ds, MV fns ims k e) ∧ acc.length = j ∧ SA H' st g c (n + 1 + 1 + j * usedV k) ∧ Fr st g H H' ∧ MxA H' g fa ia fns ims)
            ⟨[], [], upd_same, .nil, fun e m => absurd m List.not_mem_nil, rfl, by rw [Nat.zero_mul]; exact S3.put zLL, F03.out nLL0, M3.same (sadd (Same.refl H3) nLL)⟩ (fun j H' _ _ => trivial) ?turn ?done
          case turn =>
            rintro j x H5 H6 hj ⟨acc, ds, hLL, hac, hmv, hle, S5, F5, M5⟩ ⟨rfl, rfl⟩
            have hj1 : j ≤ 1 := by omega
            have hju : j * usedV k ≤ 1 * usedV k := Nat.mul_le_mul_right _ hj1
            refine ⟨rfl, ?_⟩
            unfold tYes
            dsimp only []
            rw [if_pos rfl]
            refine ⟨_, rfl, _, rfl, _, rfl, _, rfl, _, _, rfl, rfl, st, g, c, fa, ia, n + 1 + 1 + j * usedV k, fns, ims, congrArg (fun i => [V.ref st, V.ref fa, V.ref ia, V.int i]) e3, by omega, S5, by omega, M5, fun x dx H7 da mv S7 F7 => ?_⟩
            have hLL7 := F7 LL _ hLL zLL.1 zLL.2.1
            have kt : ∀ (o : List V) r xs, H7 r = some (.tup xs) → upd H7 LL (.lst o) r = some (.tup xs) := fun o r xs e => (upd_ne (ne_of e hLL7 (fun y => nomatch y))).trans e
            have M7 := M5.fr S5 F7
            have M8 : MxA (upd H7 LL (.lst (acc ++ [x]))) g fa ia fns ims := by
              obtain ⟨xs, h1, h2⟩ := M7.fx
              obtain ⟨ys, h3, h4⟩ := M7.ix
              have nf : fa ≠ LL := fun e => by
                obtain ⟨xs, h1, h2⟩ := M3.fx
                rw [e, nLL] at h1
                cases h1
              have ni : ia ≠ LL := fun e => by
                obtain ⟨xs, h1, h2⟩ := M3.ix
                rw [e, nLL] at h1
                cases h1
              exact ⟨⟨xs, (upd_ne nf).trans h1, h2.mono (kt _)⟩, M7.fg, ⟨ys, (upd_ne ni).trans h3, h4.mono (kt _)⟩, M7.ig, M7.fl, M7.il, M7.fo, M7.io⟩
            refine ⟨acc, hLL7, by omega, acc ++ [x], ds ++ [dx], upd_same, ((hac.mono (fr_tup S5 F7)).mono (kt _)).app (.cons (da.mono (kt _)) .nil), fun e m => ?_, by rw [List.length_append, hle]; rfl, ?_, (F5.trans F7).out nLL0, M8⟩
            · rcases List.mem_append.mp m with m | m
              · exact hmv e m
              · rw [List.mem_singleton.mp m]; exact mv
            · rw [Nat.succ_mul, ← Nat.add_assoc]
              exact S7.put zLL
          case done =>
            rintro H5 ⟨acc, ds, hLL, hac, hmv, hle, S5, F5, M5⟩
            have en : (fn.2 : Int).toNat = fn.2 := rfl
            rw [en] at S5 hle
            have ld := hac.len
            have hju : fn.2 * usedV k ≤ 2 * usedV k := Nat.mul_le_mul_right _ f2
            refine ⟨LL, acc, rfl, .inl ⟨SqL.of hLL, fun l nl => ⟨(by show 3 ≤ sizeLine; decide), fun q nq => ?_⟩⟩⟩
            have zl := S5.old nl
            have S6 := S5.put (o := .tup acc) zl
            have F6 := F5.out (o := .tup acc) (F5.free nl zl.1 zl.2.1)
            have sl := sadd (o := .tup acc) (Same.refl H5) nl
            have hl : upd H5 l (.tup acc) l = some (.tup acc) := upd_same
            have hac6 := hac.same sl
            generalize upd H5 l (.tup acc) = H6 at nq S6 F6 hl hac6 ⊢
            have zq := S6.old nq
            have sq := sadd (o := .tup [.str "run", .str fn.1, .ref l]) (Same.refl H6) nq
            exact kk _ (.tuple [.str "run", .str fn.1, .tuple ds]) _ (DA.tup upd_same (.cons (.str _ (by decide)) (.cons (.str _ zl1) (.cons ((DA.tup hl hac6).same sq) .nil)))) (.run k fn ds hfm (by omega) hmv) ((S6.put zq).mono (by omega)) (F6.out (F6.free nq zq.1 zq.2.1))
      · rw [decide_eq_false h3]
        exact iteF (iteF (key1 H1 ⟨S1, F1⟩))
    rintro H2 ⟨S2, F2⟩
    have M2 := M.fr S F2
    refine ⟨_, rfl, _, _, rfl, rfl, _, rfl, ?_⟩
    refine' cutH (A := fun H3 => SA H3 st g c (n + 1) ∧ Fr st g H H3) (fun key2 => ?_) ?_
    rotate_left
    · by_cases h5 : kd < 5
      · rw [decide_eq_true h5]
        refine iteT ⟨_, rfl, (by show 0 ≤ sizeLine; decide), fun e ne => ?_⟩
        have se := sadd (o := .lst []) (Same.refl H2) ne
        have S3 := S2.same se
        have F3 := F2.trans (Fr.of se)
        have M3 := M2.same se
        have he : upd H2 e (.lst []) e = some (.lst []) := upd_same
        generalize upd H2 e (.lst []) = H3 at se S3 F3 M3 he ⊢
        obtain ⟨xs, hix, hxs⟩ := M3.ix
        refine ⟨.list (ims.map imD), .list [], .lst (SqL.of hix) hxs.dp, .lst (SqL.of he) .nil, M.flatI.shaped, rfl, _, rfl, ?_⟩
        rw [eqv_nil]
        by_cases ie : ims = []
        · rw [show (ims.map imD).isEmpty = true by rw [ie]; rfl]
          exact iteF (key2 H3 ⟨S3, F3⟩)
        · rw [show (ims.map imD).isEmpty = false by cases ims with | nil => exact absurd rfl ie | cons _ _ => rfl]
          have lx := hxs.len
          rw [List.length_map] at lx
          have pos : 0 < ims.length := List.length_pos_iff.mpr ie
          have il := M.il
          refine iteT ⟨_, rfl, _, rfl, st, g, c, ia, n + 1, xs, rfl, S3, by omega, hix, M.ig, by omega, by omega, fun x H4 hx S4 F4 => ?_⟩
          have M4 := M3.fr S3 F4
          obtain ⟨j, hj⟩ := List.mem_iff_getElem?.mp hx
          obtain ⟨d, hd, hda⟩ := (hxs.mono (fr_tup S3 F4)).get hj
          rw [List.getElem?_map] at hd
          obtain ⟨im, him, rfl⟩ := Option.map_eq_some_iff.mp hd
          have himm := List.mem_of_getElem? him
          obtain ⟨pa, ys, rfl, hpa, hys⟩ := hda.tupE
          obtain ⟨u1, u2, rfl, g1, g2⟩ := hys.two
          have zl1 : im.1.length ≤ 1000 := by cases g1 with | str _ h => exact h
          have zl2 : im.2.length ≤ 1000 := by cases g2 with | str _ h => exact h
          obtain rfl : u1 = .str im.1 := by cases g1; rfl
          obtain rfl : u2 = .str im.2 := by cases g2; rfl
          have F04 := F3.trans F4
          refine ⟨pa, _, rfl, SqT.of hpa, rfl, _, _, rfl, _, _, rfl, rfl, ?_⟩
          refine ⟨_, rfl, _, rfl, _, rfl, _, rfl, _, rfl, _, rfl, _, _, rfl, rfl, st, g, c, fa, ia, n + 1 + 1, fns, ims, congrArg (fun i => [V.ref st, V.ref fa, V.ref ia, V.int i]) e3, by omega, S4, by omega, M4, fun x dx H7 da mv S7 F7 => ⟨(by show 4 ≤ sizeLine; decide), fun q nq => ?_⟩⟩
          have zq := S7.old nq
          have F07 := F04.trans F7
          have sq := sadd (o := .tup [.str "ask", .str im.1, .str im.2, x]) (Same.refl H7) nq
          exact kk _ (.tuple [.str "ask", .str im.1, .str im.2, dx]) _ (DA.tup upd_same (.cons (.str _ (by decide)) (.cons (.str _ zl1) (.cons (.str _ zl2) (.cons (da.same sq) .nil))))) (.ask k im dx himm mv) ((S7.put zq).mono (by omega)) (F07.out (F07.free nq zq.1 zq.2.1))
      · rw [decide_eq_false h5]
        exact iteF (iteF (key2 H2 ⟨S2, F2⟩))
    rintro H3 ⟨S3, F3⟩
    have M3 := M.fr S F3
    refine ⟨_, rfl, _, rfl, _, rfl, _, rfl, _, _, rfl, rfl, st, g, c, fa, ia, n + 1, fns, ims, congrArg (fun i => [V.ref st, V.ref fa, V.ref ia, V.int i]) e3, by omega, S3, by omega, M3, fun x1 d1 H4 da1 mv1 S4 F4 => ?_⟩
    have M4 := M3.fr S3 F4
    refine ⟨_, rfl, _, rfl, _, rfl, _, rfl, _, rfl, _, _, rfl, rfl, st, g, c, fa, ia, _, fns, ims, congrArg (fun i => [V.ref st, V.ref fa, V.ref ia, V.int i]) e3, by omega, S4, by omega, M4, fun x2 d2 H5 da2 mv2 S5 F5 => ⟨(by show 3 ≤ sizeLine; decide), fun q nq => ?_⟩⟩
    have zq := S5.old nq
    have F05 := (F3.trans F4).trans F5
    have sq := sadd (o := .tup [.str "plus", x1, x2]) (Same.refl H5) nq
    exact kk _ (.tuple [.str "plus", d1, d2]) _ (DA.tup upd_same (.cons (.str _ (by decide)) (.cons ((da1.mono (fr_tup S4 F5)).same sq) (.cons (da2.same sq) .nil)))) (.plus k d1 d2 mv1 mv2) ((S5.put zq).mono (by omega)) (F05.out (F05.free nq zq.1 zq.2.1))
theorem ok_mix {f : Addr} {fd : FuncData} (F : Fun K "_law_mixed_value" "_law_mixed_value" s__law_mixed_value f fd) (m : mg "_law_mixed_value" = some (.ref f)) (ki : PySem.W.keepIn K (.ref f) = true) (b : Binds K fd pMv []) (T : Txt K mg) (DD : DefF P w K mg base CX0 4 "_law_draw" ["state", "room"] spDraw) (DP : DefF P w K mg base CX0 4 "_law_pick" ["state", "some"] spPick) (DM : DefF P w K mg base CX0 4 "_law_small" ["state"] (spNo 2)) :
    ∀ k : Nat, FnOk P w K mg base CX0 (k + 5) f fd pMv (spMix k)
  | 0 => by
    have v0 : FnOk P w K mg base CX0 4 f fd pMv (spMixN 0) := F.ok sc_mix (fun vs H Q E h => h.elim) (fun cdv A outer s H vs Q E hr h => h.elim)
    exact ok_mix_step 0 F T DD DP DM ⟨f, fd, v0, m, ki, b⟩
  | k + 1 => ok_mix_step (k + 1) F T DD DP DM ⟨f, fd, ok_mix F m ki b T DD DP DM k, m, ki, b⟩
end
end OH
end
section
set_option Elab.async false
set_option linter.all false
set_option maxRecDepth 100000
set_option maxHeartbeats 8000000
/-! The law's drawn bodies. -/
namespace OH
open PySem PySem.Spec PyProof.Rows L2
/-- this builds that data -/
def EvD (t : TE) (σ : L2.St) (H : Hp) (d : PyData) : Prop := ∀ H1 Q, Same H H1 → (∀ v H2, Same H1 H2 → DA NoZ H2 v d → Q v H2) → t σ H1 Q
def EvDs (t : TA) (σ : L2.St) (H : Hp) (ds : List PyData) : Prop := ∀ H1 Q, Same H H1 → (∀ vs H2, Same H1 H2 → DAs NoZ H2 vs ds → Q vs H2) → t σ H1 Q
/-- and this a list of these -/
def EvLs (t : TE) (σ : L2.St) (H : Hp) (ds : List PyData) : Prop := ∀ H1 Q, Same H H1 → (∀ p vs H2, Same H1 H2 → H1 p = none → H2 p = some (.lst vs) → DAs NoZ H2 vs ds → Q (.ref p) H2) → t σ H1 Q
section
variable {σ : L2.St} {H : Hp}
theorem evd_str {z : Str} (h : z.length ≤ 1000) : EvD (tC (.str z)) σ H (.str z) := fun H1 Q _ q => q _ H1 (Same.refl H1) (.str z h)
theorem evd_int {i : Int} : EvD (tC (.int i)) σ H (.int i) := fun H1 Q _ q => q _ H1 (Same.refl H1) (.int i)
theorem evd_var {i : Nat} {v : V} {d : PyData} (e : σ[i]? = some (some v)) (h : DA NoZ H v d) : EvD (tVar i) σ H d := fun H1 Q s q => ⟨v, e, q v H1 (Same.refl H1) (h.same s)⟩
theorem evds_nil : EvDs tNil σ H [] := fun H1 Q _ q => q [] H1 (Same.refl H1) .nil
theorem evds_cons {t : TE} {u : TA} {d : PyData} {ds : List PyData} (h1 : EvD t σ H d) (h2 : EvDs u σ H ds) : EvDs (tCons t u) σ H (d :: ds) := fun H1 Q s q =>
  h1 H1 _ s fun v H2 s2 hv => h2 H2 _ (s.trans s2) fun vs H3 s3 hvs => q (v :: vs) H3 (s2.trans s3) (.cons (hv.same s3) hvs)
theorem evd_tup {t : TA} {ds : List PyData} (h : EvDs t σ H ds) (few : ds.length ≤ 100) : EvD (tTup t) σ H (.tuple ds) := fun H1 Q s q =>
  h H1 _ s fun vs H2 s2 hvs => ⟨by rw [hvs.len, sizeLine_eq]; omega, fun p np =>
    let sp := sadd (o := .tup vs) (Same.refl H2) np
    q (.ref p) _ (s2.trans sp) (DA.tup upd_same (hvs.same sp))⟩
theorem evl_lst {t : TA} {ds : List PyData} (h : EvDs t σ H ds) (few : ds.length ≤ 100) : EvLs (tLst t) σ H ds := fun H1 Q s q =>
  h H1 _ s fun vs H2 s2 hvs => ⟨by rw [hvs.len, sizeLine_eq]; omega, fun p np =>
    let sp := sadd (o := .lst vs) (Same.refl H2) np
    q p vs _ (s2.trans sp) (s2.free np) upd_same (hvs.same sp)⟩
theorem evl_cat {i : Nat} {a : Addr} {t : TE} {xs : List V} {cs ds : List PyData} (e : σ[i]? = some (some (.ref a))) (ha : H a = some (.lst xs)) (hx : DAs NoZ H xs cs) (h : EvLs t σ H ds) (few : cs.length + ds.length ≤ 100) : EvLs (tOp rCat (tVar i) t) σ H (cs ++ ds) := fun H1 Q s q =>
  ⟨.ref a, e, h H1 _ s fun p vs H2 s2 np hp hvs => ⟨a, p, xs, vs, rfl, rfl, s2 _ _ (s _ _ ha), hp, by rw [hx.len, hvs.len, sizeLine_eq]; omega, fun l nl =>
    let sl := sadd (o := .lst (xs ++ vs)) (Same.refl H2) nl
    q l _ _ (s2.trans sl) (s2.free nl) upd_same (((hx.same (s.trans s2)).app hvs).same sl)⟩⟩
end
/-- the statements that are drawn from -/
abbrev numD (i : Int) : PyData := .tuple [.str "number", .int i]
def s1D (v : PyData) : List PyData := [.tuple [.str "let", .str "x", v], .tuple [.str "store", .str "b", v, numD 0], .tuple [.str "store", .str "b", numD 0, v]]
def s2D (v : PyData) : List PyData := [.tuple [.str "if", v, .tuple [], .tuple []], .tuple [.str "if", numD 0, .tuple [.tuple [.str "give", v]], .tuple []], .tuple [.str "while", v, .tuple []]]
def s3D (v : PyData) : List PyData := [.tuple [.str "if", numD 1, .tuple [], .tuple [.tuple [.str "let", .str "x", v]]], .tuple [.str "give", v]]
def s4D (v : PyData) : List PyData := [.tuple [.str "while", numD 0, .tuple [.tuple [.str "stop"], .tuple [.str "give", v]]]]
theorem gN {i : Nat} {x : V} {σ : L2.St} {H : Hp} {K : L2.St → Hp → Prop} (h : K (σ.set i (some x)) H) : gName i x σ H K := h
theorem sqa {t : TE} {i : Nat} {u : TS} {D : Ends} {σ : L2.St} {H : Hp} (h : t σ H fun x H1 => gName i x σ H1 (u D)) : tSeq (tAsg t (gName i)) u D σ H := h
theorem tcs {ta : TE} {tr : TA} {σ : L2.St} {H : Hp} {Q : List V → Hp → Prop} (h : ta σ H fun x H1 => tr σ H1 fun xs H2 => Q (x :: xs) H2) : tCons ta tr σ H Q := h
abbrev tNu (i : Int) : TE := tTup (tCons (tC (.str "number")) (tCons (tC (.int i)) tNil))
abbrev tGi (i : Nat) : TE := tTup (tCons (tC (.str "give")) (tCons (tVar i) tNil))
abbrev tLe (i : Nat) : TE := tTup (tCons (tC (.str "let")) (tCons (tC (.str "x")) (tCons (tVar i) tNil)))
abbrev T1 (i : Nat) : TE := tLst (tCons (tLe i) (tCons (tTup (tCons (tC (.str "store")) (tCons (tC (.str "b")) (tCons (tVar i) (tCons (tNu 0) tNil))))) (tCons (tTup (tCons (tC (.str "store")) (tCons (tC (.str "b")) (tCons (tNu 0) (tCons (tVar i) tNil))))) tNil)))
abbrev T2 (i : Nat) : TE := tLst (tCons (tTup (tCons (tC (.str "if")) (tCons (tVar i) (tCons (tTup tNil) (tCons (tTup tNil) tNil))))) (tCons (tTup (tCons (tC (.str "if")) (tCons (tNu 0) (tCons (tTup (tCons (tGi i) tNil)) (tCons (tTup tNil) tNil))))) (tCons (tTup (tCons (tC (.str "while")) (tCons (tVar i) (tCons (tTup tNil) tNil)))) tNil)))
abbrev T3 (i : Nat) : TE := tLst (tCons (tTup (tCons (tC (.str "if")) (tCons (tNu 1) (tCons (tTup tNil) (tCons (tTup (tCons (tLe i) tNil)) tNil))))) (tCons (tGi i) tNil))
abbrev T4 (i : Nat) : TE := tLst (tCons (tTup (tCons (tC (.str "while")) (tCons (tNu 0) (tCons (tTup (tCons (tTup (tCons (tC (.str "stop")) tNil)) (tCons (tGi i) tNil))) tNil)))) tNil)
section
variable {σ : L2.St} {H : Hp} {i : Nat} {v : V} {d : PyData}
theorem ev_nu (k : Int) : EvD (tNu k) σ H (numD k) := evd_tup (evds_cons (evd_str (by decide)) (evds_cons evd_int evds_nil)) (by show 2 ≤ 100; decide)
theorem ev_gi (e : σ[i]? = some (some v)) (h : DA NoZ H v d) : EvD (tGi i) σ H (.tuple [.str "give", d]) := evd_tup (evds_cons (evd_str (by decide)) (evds_cons (evd_var e h) evds_nil)) (by show 2 ≤ 100; decide)
theorem ev_le (e : σ[i]? = some (some v)) (h : DA NoZ H v d) : EvD (tLe i) σ H (.tuple [.str "let", .str "x", d]) := evd_tup (evds_cons (evd_str (by decide)) (evds_cons (evd_str (by decide)) (evds_cons (evd_var e h) evds_nil))) (by show 3 ≤ 100; decide)
theorem ev_em : EvD (tTup tNil) σ H (.tuple []) := evd_tup evds_nil (by show 0 ≤ 100; decide)
theorem ev1 (e : σ[i]? = some (some v)) (h : DA NoZ H v d) : EvLs (T1 i) σ H (s1D d) :=
  evl_lst (evds_cons (ev_le e h) (evds_cons (evd_tup (evds_cons (evd_str (by decide)) (evds_cons (evd_str (by decide)) (evds_cons (evd_var e h) (evds_cons (ev_nu 0) evds_nil)))) (by show 4 ≤ 100; decide)) (evds_cons (evd_tup (evds_cons (evd_str (by decide)) (evds_cons (evd_str (by decide)) (evds_cons (ev_nu 0) (evds_cons (evd_var e h) evds_nil)))) (by show 4 ≤ 100; decide)) evds_nil))) (by show 3 ≤ 100; decide)
theorem ev2 (e : σ[i]? = some (some v)) (h : DA NoZ H v d) : EvLs (T2 i) σ H (s2D d) :=
  evl_lst (evds_cons (evd_tup (evds_cons (evd_str (by decide)) (evds_cons (evd_var e h) (evds_cons ev_em (evds_cons ev_em evds_nil)))) (by show 4 ≤ 100; decide)) (evds_cons (evd_tup (evds_cons (evd_str (by decide)) (evds_cons (ev_nu 0) (evds_cons (evd_tup (evds_cons (ev_gi e h) evds_nil) (by show 1 ≤ 100; decide)) (evds_cons ev_em evds_nil)))) (by show 4 ≤ 100; decide)) (evds_cons (evd_tup (evds_cons (evd_str (by decide)) (evds_cons (evd_var e h) (evds_cons ev_em evds_nil))) (by show 3 ≤ 100; decide)) evds_nil))) (by show 3 ≤ 100; decide)
theorem ev3 (e : σ[i]? = some (some v)) (h : DA NoZ H v d) : EvLs (T3 i) σ H (s3D d) :=
  evl_lst (evds_cons (evd_tup (evds_cons (evd_str (by decide)) (evds_cons (ev_nu 1) (evds_cons ev_em (evds_cons (evd_tup (evds_cons (ev_le e h) evds_nil) (by show 1 ≤ 100; decide)) evds_nil)))) (by show 4 ≤ 100; decide)) (evds_cons (ev_gi e h) evds_nil)) (by show 2 ≤ 100; decide)
theorem ev4 (e : σ[i]? = some (some v)) (h : DA NoZ H v d) : EvLs (T4 i) σ H (s4D d) :=
  evl_lst (evds_cons (evd_tup (evds_cons (evd_str (by decide)) (evds_cons (ev_nu 0) (evds_cons (evd_tup (evds_cons (evd_tup (evds_cons (evd_str (by decide)) evds_nil) (by show 1 ≤ 100; decide)) (evds_cons (ev_gi e h) evds_nil)) (by show 2 ≤ 100; decide)) evds_nil))) (by show 3 ≤ 100; decide)) evds_nil) (by show 1 ≤ 100; decide)
end
def MS (fns : List (Str × Nat)) (ims : List (Str × Str)) (x : PyData) : Prop := ∃ v, MV fns ims 3 v ∧ x ∈ s1D v ++ s2D v ++ s3D v ++ s4D v
def spMb : Sp := fun vs H Q _ => ∃ (st g c fa ia : Addr) (n : Nat) (fns : List (Str × Nat)) (ims : List (Str × Str)), vs = [.ref st, .ref fa, .ref ia] ∧ SA H st g c n ∧ n + 100 ≤ 600000 ∧ MxA H g fa ia fns ims ∧
  ∀ p xs ds H', H' p = some (.tup xs) → DAs NoZ H' xs ds → ds.length ≤ 2 → (∀ e ∈ ds, MS fns ims e) → SA H' st g c (n + 100) → Fr st g H H' → Q (.ref p) H'
section
variable {P : Program} {w : World} {K : PySem.W.Frag} {mg : Str → Option Value} {base : Heap}
abbrev nMb : List Str := ["state", "functions", "imports", "found", "turn", "value", "some"]
abbrev pMb : List Str := ["state", "functions", "imports"]
theorem sc_mb : FnScope nMb pMb (defScope s__law_mixed_body) := ⟨rfl, rfl, rfl, by decide +kernel, rfl, by decide +kernel, by decide +kernel⟩
theorem ok_mb {f : Addr} {fd : FuncData} (F : Fun K "_law_mixed_body" "_law_mixed_body" s__law_mixed_body f fd) (T : Txt K mg) (DD : DefF P w K mg base CX0 4 "_law_draw" ["state", "room"] spDraw) (DP : DefF P w K mg base CX0 4 "_law_pick" ["state", "some"] spPick)
    (DV : DefF P w K mg base CX0 8 "_law_mixed_value" pMv (spMix 3)) : FnOk P w K mg base CX0 9 f fd pMb spMb := by
  refine F.ok sc_mb (fun vs H Q E h => ?_) (fun cdv A outer s H vs Q E hr h => ?_)
  · obtain ⟨st, g, c, fa, ia, n, fns, ims, rfl, _⟩ := h
    rfl
  · obtain ⟨st, g, c, fa, ia, n, fns, ims, rfl, S, hn, M, kk⟩ := h
    have nd0 := sc_mb.nd
    have hr4 : Room 4 _ := hr.mono (show 4 ≤ 8 by omega)
    refine ⟨_, pss_cons (ps_set (i := 3) nd0 rfl (Or.inl rfl) (pe_lst pa_nil))
      (pss_cons (ps_for PassesOwn.never rfl (pi_range1 rfl T.nRange (pa_cons (pe_cD DD hr4 rfl pass0 (pa_cons (pv 0) (pa_cons pe_int pa_nil))) pa_nil)) (pg_name (i := 4) nd0 rfl (Or.inl rfl))
        (pss_cons (ps_set (i := 5) nd0 rfl (Or.inl rfl) (pe_cD DV hr rfl pass0 (pa_cons (pv 0) (pa_cons (pv 1) (pa_cons (pv 2) (pa_cons pe_int pa_nil))))))
        (pss_cons (ps_set (i := 6) nd0 rfl (Or.inl rfl) (pe_lst (pa_cons (pe_tup (pa_cons pe_str (pa_cons pe_str (pa_cons (pv 5) pa_nil)))) (pa_cons (pe_tup (pa_cons pe_str (pa_cons pe_str (pa_cons (pv 5) (pa_cons (pe_tup (pa_cons pe_str (pa_cons pe_int pa_nil))) pa_nil))))) (pa_cons (pe_tup (pa_cons pe_str (pa_cons pe_str (pa_cons (pe_tup (pa_cons pe_str (pa_cons pe_int pa_nil))) (pa_cons (pv 5) pa_nil))))) pa_nil)))))
        (pss_cons (ps_set (i := 6) nd0 rfl (Or.inl rfl) (pe_op op_cat (pv 6) (pe_lst (pa_cons (pe_tup (pa_cons pe_str (pa_cons (pv 5) (pa_cons (pe_tup pa_nil) (pa_cons (pe_tup pa_nil) pa_nil))))) (pa_cons (pe_tup (pa_cons pe_str (pa_cons (pe_tup (pa_cons pe_str (pa_cons pe_int pa_nil))) (pa_cons (pe_tup (pa_cons (pe_tup (pa_cons pe_str (pa_cons (pv 5) pa_nil))) pa_nil)) (pa_cons (pe_tup pa_nil) pa_nil))))) (pa_cons (pe_tup (pa_cons pe_str (pa_cons (pv 5) (pa_cons (pe_tup pa_nil) pa_nil)))) pa_nil))))))
        (pss_cons (ps_set (i := 6) nd0 rfl (Or.inl rfl) (pe_op op_cat (pv 6) (pe_lst (pa_cons (pe_tup (pa_cons pe_str (pa_cons (pe_tup (pa_cons pe_str (pa_cons pe_int pa_nil))) (pa_cons (pe_tup pa_nil) (pa_cons (pe_tup (pa_cons (pe_tup (pa_cons pe_str (pa_cons pe_str (pa_cons (pv 5) pa_nil)))) pa_nil)) pa_nil))))) (pa_cons (pe_tup (pa_cons pe_str (pa_cons (pv 5) pa_nil))) pa_nil)))))
        (pss_one (ps_expr (pe_bm PySem.F.plainAttrs_list PySem.F.slot_list_append PySem.F.type_list_append mt_append (pv 3) (pa_cons (pe_cD DP hr4 rfl pass0 (pa_cons (pv 0) (pa_cons
          (pe_op op_cat (pv 6) (pe_lst (pa_cons (pe_tup (pa_cons pe_str (pa_cons (pe_tup (pa_cons pe_str (pa_cons pe_int pa_nil))) (pa_cons (pe_tup (pa_cons (pe_tup (pa_cons pe_str pa_nil)) (pa_cons (pe_tup (pa_cons pe_str (pa_cons (pv 5) pa_nil))) pa_nil))) pa_nil)))) pa_nil))) pa_nil))) pa_nil)))))))))
      (pss_one (ps_ret (pe_callTy call_tuple_of (by rfl) T.nTuple (by decide +kernel) (pa_cons (pv 3) pa_nil))))), ?_⟩
    have sL := sizeLine_eq
    refine ⟨(by show 0 ≤ sizeLine; decide), fun fo nfo => ?_⟩
    have zfo := S.old nfo
    have s1 := sadd (o := .lst []) (Same.refl H) nfo
    have S1 := S.same s1
    have F1 : Fr st g H (upd H fo (.lst [])) := Fr.of s1
    have M1 := M.same s1
    have hfo1 : upd H fo (.lst []) fo = some (.lst []) := upd_same
    generalize upd H fo (.lst []) = H1 at s1 S1 F1 M1 hfo1 ⊢
    refine ⟨_, rfl, st, g, c, n, 3, rfl, S1, by omega, by decide, by decide, fun m H2 m0 m1 S2 F2 => ?_⟩
    have M2 := M1.fr S1 F2
    have hfo2 := F2 fo _ hfo1 zfo.1 zfo.2.1
    refine ⟨m, rfl, by omega, by omega, ?_⟩
    refine for_range (lo := 0) (n := m.toNat) (fun j σ H' => ∃ (o4 o5 o6 : Option V) (acc : List V) (ds : List PyData), σ = [some (.ref st), some (.ref fa), some (.ref ia), some (.ref fo), o4, o5, o6] ∧ H' fo = some (.lst acc) ∧ DAs NoZ H' acc ds ∧ (∀ e ∈ ds, MS fns ims e) ∧ acc.length = j ∧
        SA H' st g c (n + 1 + j * 39) ∧ Fr st g H H' ∧ MxA H' g fa ia fns ims)
      ⟨none, none, none, [], [], rfl, hfo2, .nil, fun e m => absurd m List.not_mem_nil, rfl, by rw [Nat.zero_mul]; exact S2, F1.trans F2, M2⟩ ?turn ?done
    case done =>
      rintro σ H3 ⟨o4, o5, o6, acc, ds, rfl, hfo, hac, hms, hle, S3, F3, M3⟩
      have ld := hac.len
      refine ⟨_, rfl, fo, acc, rfl, .inl ⟨SqL.of hfo, fun l nl => ?_⟩⟩
      have zl := S3.old nl
      have sl := sadd (o := .tup acc) (Same.refl H3) nl
      exact kk l acc ds _ upd_same (hac.same sl) (by omega) hms ((S3.put zl).mono (by omega)) (F3.out (F3.free nl zl.1 zl.2.1))
    case turn =>
      rintro j σ H3 hj ⟨o4, o5, o6, acc, ds, rfl, hfo, hac, hms, hle, S3, F3, M3⟩
      have hj1 : j ≤ 1 := by omega
      have u3 : usedV 3 = 38 := rfl
      refine ⟨_, rfl, _, rfl, _, rfl, st, g, c, fa, ia, n + 1 + j * 39, fns, ims, rfl, by decide, S3, by rw [u3]; omega, M3, fun x dx H4 da mv S4 F4 => ?_⟩
      rw [u3] at S4
      have M4 := M3.fr S3 F4
      have hfo4 := F4 fo _ hfo zfo.1 zfo.2.1
      have F04 := F3.trans F4
      have hac4 := hac.mono (fr_tup S3 F4)
      have q1 := ev1 (σ := [some (.ref st), some (.ref fa), some (.ref ia), some (.ref fo), some (.int (0 + (j : Nat))), some x, o6]) (i := 5) (H := H4) rfl da
      refine gN (sqa (q1 H4 _ (Same.refl H4) fun p1 v1 H5 s5 n1 hp1 hv1 => ?_))
      have da5 := da.same s5
      have q2 := evl_cat (σ := [some (.ref st), some (.ref fa), some (.ref ia), some (.ref fo), some (.int (0 + (j : Nat))), some x, some (.ref p1)]) (i := 6) (H := H5) rfl hp1 hv1 (ev2 (i := 5) rfl da5) (by show 3 + 3 ≤ 100; decide)
      refine gN (sqa (q2 H5 _ (Same.refl H5) fun p2 v2 H6 s6 n2 hp2 hv2 => ?_))
      have da6 := da5.same s6
      have q3 := evl_cat (σ := [some (.ref st), some (.ref fa), some (.ref ia), some (.ref fo), some (.int (0 + (j : Nat))), some x, some (.ref p2)]) (i := 6) (H := H6) rfl hp2 hv2 (ev3 (i := 5) rfl da6) (by show 6 + 2 ≤ 100; decide)
      refine gN (sqa (q3 H6 _ (Same.refl H6) fun p3 v3 H7 s7 n3 hp3 hv3 => ?_))
      have da7 := da6.same s7
      have s47 := (s5.trans s6).trans s7
      have hfo7 := s47 _ _ hfo4
      refine ⟨_, rfl, .inl ⟨rfl, _, SqL.of hfo7⟩, _, rfl, ?_⟩
      have q4 := evl_cat (σ := [some (.ref st), some (.ref fa), some (.ref ia), some (.ref fo), some (.int (0 + (j : Nat))), some x, some (.ref p3)]) (i := 6) (H := H7) rfl hp3 hv3 (ev4 (i := 5) rfl da7) (by show 8 + 1 ≤ 100; decide)
      refine tcs (q4 H7 _ (Same.refl H7) fun p4 v4 H8 s8 n4 hp4 hv4 => ?_)
      have s48 := s47.trans s8
      have S7 := S4.same s47
      have S8 := S4.same s48
      have z4 := S7.old n4
      have l9 : v4.length = 9 := hv4.len
      refine ⟨st, g, c, p4, n + 1 + j * 39 + 38, v4, rfl, S8, by omega, hp4, z4.2.1, by omega, by omega, fun y H9 hy S9 F9 => ?_⟩
      have hfo9 := F9 fo _ (s8 _ _ hfo7) zfo.1 zfo.2.1
      obtain ⟨i, hi⟩ := List.mem_iff_getElem?.mp hy
      obtain ⟨d, hd, hdy⟩ := (hv4.mono (fr_tup S8 F9)).get hi
      have F09 := (F04.trans (Fr.of s48)).trans F9
      have M9 := (M4.same s48).fr S8 F9
      have kt : ∀ (o : List V) r xs, H9 r = some (.tup xs) → upd H9 fo (.lst o) r = some (.tup xs) := fun o r xs e => (upd_ne (ne_of e hfo9 (fun y => nomatch y))).trans e
      have hac9 := (hac4.same s48).mono (fr_tup S8 F9)
      have M10 : MxA (upd H9 fo (.lst (acc ++ [y]))) g fa ia fns ims := by
        obtain ⟨xs, h1, h2⟩ := M9.fx
        obtain ⟨ys, h3, h4⟩ := M9.ix
        have nf : fa ≠ fo := fun e => by
          obtain ⟨xs, h1, h2⟩ := M.fx
          rw [e, nfo] at h1
          cases h1
        have ni : ia ≠ fo := fun e => by
          obtain ⟨xs, h1, h2⟩ := M.ix
          rw [e, nfo] at h1
          cases h1
        exact ⟨⟨xs, (upd_ne nf).trans h1, h2.mono (kt _)⟩, M9.fg, ⟨ys, (upd_ne ni).trans h3, h4.mono (kt _)⟩, M9.ig, M9.fl, M9.il, M9.fo, M9.io⟩
      refine ⟨fo, _, y, rfl, rfl, hfo9, by omega, some _, some x, some (.ref p3), acc ++ [y], ds ++ [d], rfl, upd_same, (hac9.mono (kt _)).app (.cons (hdy.mono (kt _)) .nil), fun e m => ?_, by rw [List.length_append, hle]; rfl, ?_, F09.out nfo, M10⟩
      · rcases List.mem_append.mp m with m | m
        · exact hms e m
        · rw [List.mem_singleton.mp m]
          exact ⟨dx, mv, List.mem_of_getElem? hd⟩
      · rw [Nat.succ_mul, ← Nat.add_assoc]
        exact S9.put zfo
end
end OH
end
section
set_option Elab.async false
set_option linter.all false
set_option maxRecDepth 100000
set_option maxHeartbeats 8000000
/-! Drawn bodies are good ones. -/
namespace OH
open PySem PySem.Spec PyProof.Rows L2
structure Cov (C : BCx) (fns : List (Str × Nat)) (ims : List (Str × Str)) : Prop where
  fo : ∀ f ∈ fns, C.pars.lookup f.1 = some f.2 ∧ f.2 ≤ 2
  io : ∀ q ∈ ims, q ∈ C.imps
  bo : ("b" : Str) ∈ C.blks
def szV : Nat → Int
  | 0 => 1
  | k + 1 => 1 + 2 * szV k
theorem szV_pos : ∀ k, 1 ≤ szV k
  | 0 => by decide
  | k + 1 => by have := szV_pos k; show 1 ≤ 1 + 2 * szV k; omega
theorem mv_left {C : BCx} {fns : List (Str × Nat)} {ims : List (Str × Str)} (cv : Cov C fns ims) {k : Nat} {x : PyData} (h : MV fns ims k x) : ∀ (d : Nat) (l : Int), k < d → szV k ≤ l → ∃ m : Int, 1 ≤ m ∧ m ≤ szV k ∧ leftV C d x l = l - m := by
  induction h with
  | num k z h0 h1 =>
    intro d l hd hl
    obtain ⟨d, rfl⟩ : ∃ d', d = d' + 1 := ⟨d - 1, by omega⟩
    refine ⟨1, Int.le_refl _, szV_pos k, ?_⟩
    show (if isOwn "number" (.str "number") then (if numJ (.int z) then l - 1 else -1) else if isOwn "local" (.str "number") && nameJ (.int z) then l - 1 else -1) = l - 1
    rw [if_pos (by decide), if_pos (by show (decide (0 ≤ z) && decide (z ≤ 9999)) = true; rw [decide_eq_true h0, decide_eq_true h1]; rfl)]
  | run k f es hf hn he ih =>
    intro d l hd hl
    obtain ⟨d, rfl⟩ : ∃ d', d = d' + 1 := ⟨d - 1, by omega⟩
    obtain ⟨lk, f2⟩ := cv.fo f hf
    have sp := szV_pos k
    have hl : 1 + 2 * szV k ≤ l := hl
    have e0 : leftV C (d + 1) (.tuple [.str "run", .str f.1, .tuple es]) l = es.foldl (fun l x => leftV C d x l) (l - 1) := by
      show (if l ≤ 0 then -1 else if isOps (.str "run") then leftV C d (.tuple es) (leftV C d (.str f.1) (l - 1)) else if isOwn "cell" (.str "run") && blkB C (.str f.1) then leftV C d (.tuple es) (l - 1) else if isOwn "run" (.str "run") && parB C (.str f.1) (.tuple es) then (itemsD (.tuple es)).foldl (fun l x => leftV C d x l) (l - 1) else -1) = _
      rw [if_neg (by omega), if_neg (by decide), if_neg (by rw [show isOwn "cell" (.str "run") = false by decide]; simp), if_pos (by
        rw [show isOwn "run" (.str "run") = true by decide, Bool.true_and]
        show (match C.pars.lookup f.1 with | some n => decide (es.length = n) | none => false) = true
        rw [lk]
        exact decide_eq_true hn)]
      rfl
    rw [e0]
    match es, hn, ih with
    | [], _, _ => exact ⟨1, Int.le_refl _, by show 1 ≤ 1 + 2 * szV k; omega, rfl⟩
    | [a], _, ih =>
      obtain ⟨m, m1, m2, e⟩ := ih a List.mem_cons_self d (l - 1) (by omega) (by omega)
      exact ⟨1 + m, by omega, by show 1 + m ≤ 1 + 2 * szV k; omega, by show leftV C d a (l - 1) = _; rw [e]; omega⟩
    | [a, b], _, ih =>
      obtain ⟨m, m1, m2, e⟩ := ih a List.mem_cons_self d (l - 1) (by omega) (by omega)
      obtain ⟨n, n1, n2, e'⟩ := ih b (List.mem_cons_of_mem _ List.mem_cons_self) d (l - 1 - m) (by omega) (by omega)
      exact ⟨1 + m + n, by omega, by show 1 + m + n ≤ 1 + 2 * szV k; omega, by show leftV C d b (leftV C d a (l - 1)) = _; rw [e, e']; omega⟩
    | a :: b :: c :: r, hn, _ =>
      rw [List.length_cons, List.length_cons, List.length_cons] at hn
      omega
  | ask k q e hq he ih =>
    intro d l hd hl
    obtain ⟨d, rfl⟩ : ∃ d', d = d' + 1 := ⟨d - 1, by omega⟩
    have sp := szV_pos k
    have hl : 1 + 2 * szV k ≤ l := hl
    obtain ⟨m, m1, m2, em⟩ := ih d (l - 1) (by omega) (by omega)
    refine ⟨1 + m, by omega, by show 1 + m ≤ 1 + 2 * szV k; omega, ?_⟩
    show (if l ≤ 0 then -1 else if isOwn "ask" (.str "ask") && impB C (.str q.1) (.str q.2) then leftV C d e (l - 1) else -1) = _
    rw [if_neg (by omega), if_pos (by
      rw [show isOwn "ask" (.str "ask") = true by decide, Bool.true_and]
      exact decide_eq_true (cv.io q hq)), em]
    omega
  | plus k a b ha hb iha ihb =>
    intro d l hd hl
    obtain ⟨d, rfl⟩ : ∃ d', d = d' + 1 := ⟨d - 1, by omega⟩
    have sp := szV_pos k
    have hl : 1 + 2 * szV k ≤ l := hl
    obtain ⟨m, m1, m2, e⟩ := iha d (l - 1) (by omega) (by omega)
    obtain ⟨n, n1, n2, e'⟩ := ihb d (l - 1 - m) (by omega) (by omega)
    refine ⟨1 + m + n, by omega, by show 1 + m + n ≤ 1 + 2 * szV k; omega, ?_⟩
    show (if l ≤ 0 then -1 else if isOps (.str "plus") then leftV C d b (leftV C d a (l - 1)) else if isOwn "cell" (.str "plus") && blkB C a then leftV C d b (l - 1) else if isOwn "run" (.str "plus") && parB C a b then (itemsD b).foldl (fun l x => leftV C d x l) (l - 1) else -1) = _
    rw [if_neg (by omega), if_pos (by decide), e, e']
    omega
section
variable {C : BCx} {rv rb : PyData → Int → Int} {l : Int}
theorem st_let {v : PyData} (h : 0 < l) : stmStep C rv rb l (.tuple [.str "let", .str "x", v]) = rv v (l - 1) := by
  show (if l ≤ 0 then -1 else if isOwn "let" (.str "let") then (if nameJ (.str "x") then rv v (l - 1) else -1) else if isOwn "while" (.str "let") then rb v (rv (.str "x") (l - 1)) else -1) = _
  rw [if_neg (by omega), if_pos (by decide), if_pos (by decide +kernel)]
theorem st_while {a b : PyData} (h : 0 < l) : stmStep C rv rb l (.tuple [.str "while", a, b]) = rb b (rv a (l - 1)) := by
  show (if l ≤ 0 then -1 else if isOwn "let" (.str "while") then (if nameJ a then rv b (l - 1) else -1) else if isOwn "while" (.str "while") then rb b (rv a (l - 1)) else -1) = _
  rw [if_neg (by omega), if_neg (by decide), if_pos (by decide)]
theorem st_store {a b : PyData} (h : 0 < l) (hb : ("b" : Str) ∈ C.blks) : stmStep C rv rb l (.tuple [.str "store", .str "b", a, b]) = rv b (rv a (l - 1)) := by
  show (if l ≤ 0 then -1 else if isOwn "store" (.str "store") && blkB C (.str "b") then rv b (rv a (l - 1)) else if isOwn "if" (.str "store") then rb b (rb a (rv (.str "b") (l - 1))) else -1) = _
  rw [if_neg (by omega), if_pos (by
    rw [show isOwn "store" (.str "store") = true by decide, Bool.true_and]
    exact decide_eq_true hb)]
theorem st_if {a b c : PyData} (h : 0 < l) : stmStep C rv rb l (.tuple [.str "if", a, b, c]) = rb c (rb b (rv a (l - 1))) := by
  show (if l ≤ 0 then -1 else if isOwn "store" (.str "if") && blkB C a then rv c (rv b (l - 1)) else if isOwn "if" (.str "if") then rb c (rb b (rv a (l - 1))) else -1) = _
  rw [if_neg (by omega), if_neg (by rw [show isOwn "store" (.str "if") = false by decide]; simp), if_pos (by decide)]
theorem st_give {a : PyData} (h : 0 < l) : stmStep C rv rb l (.tuple [.str "give", a]) = rv a (l - 1) := by
  show (if l ≤ 0 then -1 else if isOwn "give" (.str "give") then rv a (l - 1) else -1) = _
  rw [if_neg (by omega), if_pos (by decide)]
theorem st_stop (h : 0 < l) : stmStep C rv rb l (.tuple [.str "stop"]) = l - 1 := by
  show (if l ≤ 0 then -1 else if isOwn "stop" (.str "stop") then l - 1 else -1) = _
  rw [if_neg (by omega), if_pos (by decide)]
theorem lb_nil (d : Nat) : leftB C d (.tuple []) l = l := by cases d <;> rfl
theorem lb_tup (d : Nat) (ds : List PyData) : leftB C (d + 1) (.tuple ds) l = ds.foldl (stmStep C (leftV C d) (leftB C d)) l := rfl
end
/-- a drawn statement takes at most 19 -/
theorem ms_left {C : BCx} {fns : List (Str × Nat)} {ims : List (Str × Str)} (cv : Cov C fns ims) {x : PyData} (h : MS fns ims x) (d : Nat) (l : Int) (hd : 5 ≤ d) (hl : 20 ≤ l) :
    ∃ m : Int, 1 ≤ m ∧ m ≤ 19 ∧ stmStep C (leftV C d) (leftB C d) l x = l - m := by
  obtain ⟨v, mv, mx⟩ := h
  have s3 : szV 3 = 15 := by decide
  obtain ⟨d, rfl⟩ : ∃ d', d = d' + 1 := ⟨d - 1, by omega⟩
  have vl : ∀ (e : Nat) (l : Int), 3 < e → 15 ≤ l → ∃ m : Int, 1 ≤ m ∧ m ≤ 15 ∧ leftV C e v l = l - m := fun e l he hl => by
    obtain ⟨m, a, b, c⟩ := mv_left cv mv e l he (by rw [s3]; exact hl)
    exact ⟨m, a, by rw [← s3]; exact b, c⟩
  have nl : ∀ (i : Int) (e : Nat) (l : Int), 0 ≤ i → i ≤ 9999 → 0 < e → leftV C e (numD i) l = l - 1 := fun i e l h0 h1 he => by
    obtain ⟨e, rfl⟩ : ∃ e', e = e' + 1 := ⟨e - 1, by omega⟩
    show (if isOwn "number" (.str "number") then (if numJ (.int i) then l - 1 else -1) else if isOwn "local" (.str "number") && nameJ (.int i) then l - 1 else -1) = l - 1
    rw [if_pos (by decide), if_pos (by show (decide (0 ≤ i) && decide (i ≤ 9999)) = true; rw [decide_eq_true h0, decide_eq_true h1]; rfl)]
  have lp : 0 < l := by omega
  rcases List.mem_append.mp mx with mx | mx
  · rcases List.mem_append.mp mx with mx | mx
    · rcases List.mem_append.mp mx with mx | mx
      · simp only [s1D, List.mem_cons, List.not_mem_nil, or_false] at mx
        rcases mx with rfl | rfl | rfl
        · obtain ⟨m, a, b, e⟩ := vl (d + 1) (l - 1) (by omega) (by omega)
          exact ⟨1 + m, by omega, by omega, by rw [st_let lp, e]; omega⟩
        · obtain ⟨m, a, b, e⟩ := vl (d + 1) (l - 1) (by omega) (by omega)
          exact ⟨2 + m, by omega, by omega, by rw [st_store lp cv.bo, e, nl 0 _ _ (by decide) (by decide) (by omega)]; omega⟩
        · obtain ⟨m, a, b, e⟩ := vl (d + 1) (l - 1 - 1) (by omega) (by omega)
          exact ⟨2 + m, by omega, by omega, by rw [st_store lp cv.bo, nl 0 _ _ (by decide) (by decide) (by omega), e]; omega⟩
      · simp only [s2D, List.mem_cons, List.not_mem_nil, or_false] at mx
        rcases mx with rfl | rfl | rfl
        · obtain ⟨m, a, b, e⟩ := vl (d + 1) (l - 1) (by omega) (by omega)
          exact ⟨1 + m, by omega, by omega, by rw [st_if lp, e, lb_nil, lb_nil]; omega⟩
        · obtain ⟨m, a, b, e⟩ := vl d (l - 1 - 1 - 1) (by omega) (by omega)
          refine ⟨3 + m, by omega, by omega, ?_⟩
          rw [st_if lp, nl 0 _ _ (by decide) (by decide) (by omega), lb_nil, lb_tup, List.foldl_cons, List.foldl_nil, st_give (by omega), e]
          omega
        · obtain ⟨m, a, b, e⟩ := vl (d + 1) (l - 1) (by omega) (by omega)
          exact ⟨1 + m, by omega, by omega, by rw [st_while lp, e, lb_nil]; omega⟩
    · simp only [s3D, List.mem_cons, List.not_mem_nil, or_false] at mx
      rcases mx with rfl | rfl
      · obtain ⟨m, a, b, e⟩ := vl d (l - 1 - 1 - 1) (by omega) (by omega)
        refine ⟨3 + m, by omega, by omega, ?_⟩
        rw [st_if lp, nl 1 _ _ (by decide) (by decide) (by omega), lb_nil, lb_tup, List.foldl_cons, List.foldl_nil, st_let (by omega), e]
        omega
      · obtain ⟨m, a, b, e⟩ := vl (d + 1) (l - 1) (by omega) (by omega)
        exact ⟨1 + m, by omega, by omega, by rw [st_give lp, e]; omega⟩
  · simp only [s4D, List.mem_cons, List.not_mem_nil, or_false] at mx
    subst mx
    obtain ⟨m, a, b, e⟩ := vl d (l - 1 - 1 - 1 - 1) (by omega) (by omega)
    refine ⟨4 + m, by omega, by omega, ?_⟩
    rw [st_while lp, nl 0 _ _ (by decide) (by decide) (by omega), lb_tup, List.foldl_cons, List.foldl_cons, List.foldl_nil, st_stop (by omega), st_give (by omega), e]
    omega
/-- a drawn body is a good one -/
theorem mb_left {C : BCx} {fns : List (Str × Nat)} {ims : List (Str × Str)} (cv : Cov C fns ims) {ds : List PyData} (hl : ds.length ≤ 2) (h : ∀ e ∈ ds, MS fns ims e) : ∃ m : Int, 0 ≤ m ∧ m ≤ 38 ∧ leftB C 12 (.tuple ds) 200 = 200 - m := by
  rw [lb_tup]
  match ds, hl, h with
  | [], _, _ => exact ⟨0, by decide, by decide, rfl⟩
  | [a], _, h =>
    obtain ⟨m, m1, m2, e⟩ := ms_left cv (h a List.mem_cons_self) 11 200 (by decide) (by decide)
    exact ⟨m, by omega, by omega, e⟩
  | [a, b], _, h =>
    obtain ⟨m, m1, m2, e⟩ := ms_left cv (h a List.mem_cons_self) 11 200 (by decide) (by decide)
    obtain ⟨n, n1, n2, e'⟩ := ms_left cv (h b (List.mem_cons_of_mem _ List.mem_cons_self)) 11 (200 - m) (by decide) (by omega)
    exact ⟨m + n, by omega, by omega, by rw [List.foldl_cons, List.foldl_cons, List.foldl_nil, e, e']; omega⟩
  | a :: b :: c :: r, hl, _ => rw [List.length_cons, List.length_cons, List.length_cons] at hl; omega
theorem mb_part {C : BCx} {fns : List (Str × Nat)} {ims : List (Str × Str)} (cv : Cov C fns ims) {ds : List PyData} (hl : ds.length ≤ 2) (h : ∀ e ∈ ds, MS fns ims e) : partJ C (.tuple ds) = true := by
  obtain ⟨m, m0, m1, e⟩ := mb_left cv hl h
  show decide (0 ≤ leftB C 12 (.tuple ds) 200) = true
  rw [e]
  exact decide_eq_true (by omega)
/-- it has few nodes -/
theorem mb_nodes {C : BCx} {R : Str → Prop} (hR : ∀ z n, C.pars.lookup z = some n → R z ∧ n ≤ 4) {fns : List (Str × Nat)} {ims : List (Str × Str)} (cv : Cov C fns ims) {ds : List PyData} (hl : ds.length ≤ 2) (h : ∀ e ∈ ds, MS fns ims e) : (nodesIn 12 ds).length ≤ 38 := by
  obtain ⟨m, m0, m1, e⟩ := mb_left cv hl h
  rw [lb_tup] at e
  have q := left_ok hR 11
  obtain ⟨_, r⟩ := stms_ok hR q.1 q.2 ds 200 (by rw [e]; omega)
  rw [e] at r
  have r : 200 - m + ((nodesIn 12 ds).length : Int) = 200 := r
  omega
end OH
end
section
set_option Elab.async false
set_option linter.all false
set_option maxRecDepth 100000
set_option maxHeartbeats 8000000
/-! Drawn rooms are good ones. -/
namespace OH
open PySem PySem.Spec PyProof.Rows L2
def allP : List (Str × Str) := [("east", "go"), ("east", "get"), ("west", "go"), ("west", "get"), ("up", "go"), ("up", "get")]
def allN : List Str := ["f", "help", "sum2", "a1", "go", "zz", "nth"]
def allQ : List (List Str) := [[], ["m"], ["m", "n"]]
abbrev fuD (z : Str) (ps : List Str) (body : List PyData) : PyData := .tuple [.str z, .tuple (ps.map PyData.str), .tuple body]
abbrev doD (z : Str) (body : List PyData) : PyData := .tuple [.str z, .str "p", .int 7, .tuple body]
/-- a drawn body over what may be run and asked -/
structure BdR (kn : List (Str × Nat)) (ims : List (Str × Str)) (body : List PyData) : Prop where
  ex : ∃ fns ims', (∀ f ∈ fns, f ∈ kn) ∧ (∀ q ∈ ims', q ∈ ims) ∧ ∀ e ∈ body, MS fns ims' e
  few : body.length ≤ 2
inductive FnsD (ims : List (Str × Str)) : List (Str × Nat) → List PyData → Prop
  | nil : FnsD ims [] []
  | snoc {kn : List (Str × Nat)} {fs : List PyData} (h : FnsD ims kn fs) (z : Str) (ps : List Str) (body : List PyData) (hz : z ∈ allN) (nz : z ∉ kn.map (·.1)) (hp : ps ∈ allQ) (hb : BdR kn ims body) : FnsD ims (kn ++ [(z, ps.length)]) (fs ++ [fuD z ps body])
def rmD (ims : List (Str × Str)) (fs ds : List PyData) : PyData := .tuple [.str "here", .tuple (ims.map imD), .tuple [.tuple [.str "b", .tuple [.int 1]]], .tuple fs, .tuple ds]
structure DrR (ims : List (Str × Str)) (kn : List (Str × Nat)) (fs ds : List PyData) : Prop where
  ip : ∀ q ∈ ims, q ∈ allP
  iu : ims.Nodup
  fn : FnsD ims kn fs
  f6 : fs.length ≤ 6
  dr : ∃ b1 b2, ds = [doD "d1" b1, doD "d2" b2] ∧ BdR kn ims b1 ∧ BdR kn ims b2
theorem allQ_two : ∀ ps ∈ allQ, ps.length ≤ 2 := by decide +kernel
theorem FnsD.names {ims : List (Str × Str)} {kn : List (Str × Nat)} {fs : List PyData} (h : FnsD ims kn fs) : fs.map nameB = kn.map (·.1) ∧ (kn.map (·.1)).Nodup ∧ (∀ f ∈ kn, f.1 ∈ allN ∧ f.2 ≤ 2) ∧ fs.all funHJ = true := by
  induction h with
  | nil => exact ⟨rfl, List.nodup_nil, fun f m => absurd m List.not_mem_nil, rfl⟩
  | snoc h z ps body hz nz hp hb ih =>
    obtain ⟨h1, h2, h3, h4⟩ := ih
    refine ⟨by rw [List.map_append, List.map_append, h1]; rfl, ?_, fun f m => ?_, ?_⟩
    · rw [List.map_append]
      exact List.nodup_append.mpr ⟨h2, List.nodup_cons.mpr ⟨List.not_mem_nil, List.nodup_nil⟩, fun x hx y hy e => nz (by
        have ey : y = z := List.mem_singleton.mp hy
        rw [← ey, ← e]
        exact hx)⟩
    · rcases List.mem_append.mp m with m | m
      · exact h3 f m
      · rw [List.mem_singleton.mp m]
        exact ⟨hz, allQ_two ps hp⟩
    · rw [List.all_append, h4, Bool.true_and]
      have nn : ∀ z ∈ allN, goodN z = true := by decide +kernel
      have pp : ∀ ps ∈ allQ, (tupJ 0 4 (.tuple (ps.map PyData.str)) && ((ps.map PyData.str).all nameJ && decide ((ps.map PyData.str).map strD).Nodup)) = true := by decide +kernel
      show (funHJ (fuD z ps body) && true) = true
      rw [Bool.and_true]
      show (tupJ 3 3 (fuD z ps body) && (goodN z && (tupJ 0 4 (.tuple (ps.map PyData.str)) && ((ps.map PyData.str).all nameJ && decide ((ps.map PyData.str).map strD).Nodup)))) = true
      rw [pp ps hp, nn z hz]
      rfl
/-- what may be run is known -/
theorem FnsD.pars {ims : List (Str × Str)} {kn : List (Str × Nat)} {fs : List PyData} (h : FnsD ims kn fs) (C : BCx) : ∀ f ∈ kn, (addFs C fs).pars.lookup f.1 = some f.2 := by
  induction h with
  | nil => exact fun f m => absurd m List.not_mem_nil
  | @snoc kn fs h z ps body hz nz hp hb ih =>
    intro f m
    rw [addFs_snoc]
    show ((nameB (fuD z ps body), (itemsD (nthD (fuD z ps body) 1)).length) :: (addFs C fs).pars).lookup f.1 = some f.2
    have e1 : (itemsD (nthD (fuD z ps body) 1)).length = ps.length := by show (ps.map PyData.str).length = _; rw [List.length_map]
    rw [e1, show nameB (fuD z ps body) = z from rfl, List.lookup_cons]
    rcases List.mem_append.mp m with m | m
    · have ne : f.1 ≠ z := fun e => nz (by rw [← e]; exact List.mem_map.mpr ⟨f, m, rfl⟩)
      rw [show (f.1 == z) = false from beq_eq_false_iff_ne.mpr ne]
      exact ih f m
    · rw [List.mem_singleton.mp m, show (z == z) = true from beq_self_eq_true z]
theorem addFs_rest (C : BCx) : ∀ fs : List PyData, (addFs C fs).imps = C.imps ∧ (addFs C fs).blks = C.blks := by
  intro fs
  induction fs generalizing C with
  | nil => exact ⟨rfl, rfl⟩
  | cons f fs ih => exact ih (addF C f)
theorem BdR.part {kn : List (Str × Nat)} {ims : List (Str × Str)} {body : List PyData} {C : BCx} (hb : BdR kn ims body) (hp : ∀ f ∈ kn, C.pars.lookup f.1 = some f.2 ∧ f.2 ≤ 2) (hi : ∀ q ∈ ims, q ∈ C.imps) (bo : ("b" : Str) ∈ C.blks) : partJ C (.tuple body) = true := by
  obtain ⟨fns, ims', h1, h2, h3⟩ := hb.ex
  exact mb_part ⟨fun f m => hp f (h1 f m), fun q m => hi q (h2 q m), bo⟩ hb.few h3
theorem FnsD.bodies {ims : List (Str × Str)} {kn : List (Str × Nat)} {fs : List PyData} (h : FnsD ims kn fs) {C : BCx} (hi : ∀ q ∈ ims, q ∈ C.imps) (bo : ("b" : Str) ∈ C.blks) : bodiesJ C fs [] = true := by
  induction h with
  | nil => rfl
  | @snoc kn fs h z ps body hz nz hp hb ih =>
    rw [bodiesJ_app, ih, Bool.true_and]
    have r := addFs_rest C fs
    show (partJ (addFs C fs) (.tuple body) && true) = true
    rw [hb.part (fun f m => ⟨h.pars C f m, (h.names.2.2.1 f m).2⟩) (by rw [r.1]; exact hi) (by rw [r.2]; exact bo)]
    rfl
theorem DrR.imps {ims : List (Str × Str)} {kn : List (Str × Nat)} {fs ds : List PyData} (h : DrR ims kn fs ds) : impsJ "here" (.tuple (ims.map imD)) = true := by
  have l6 : ims.length ≤ 6 := len_sub (ls := allP) h.iu h.ip
  have a1 : ∀ q ∈ allP, impJ "here" (imD q) = true := by decide +kernel
  have a2 : ((ims.map imD).map pairS).Nodup := by
    rw [List.map_map]
    refine List.Pairwise.map _ (fun x y hne e => hne ?_) h.iu
    have e : [x.1, x.2] = [y.1, y.2] := e
    injection e with e1 e2
    injection e2 with e2 _
    exact Prod.ext e1 e2
  show (tupJ 0 8 (.tuple (ims.map imD)) && ((ims.map imD).all (impJ "here") && decide ((ims.map imD).map pairS).Nodup)) = true
  rw [decide_eq_true a2, show (ims.map imD).all (impJ "here") = true by
    rw [List.all_eq_true]
    intro d m
    obtain ⟨q, hq, rfl⟩ := List.mem_map.mp m
    exact a1 q (h.ip q hq)]
  show ((decide ((0 : Int) ≤ ((ims.map imD).length : Int)) && decide (((ims.map imD).length : Int) ≤ 8)) && true) = true
  rw [List.length_map, decide_eq_true (by omega), decide_eq_true (by omega)]
  rfl
theorem DrR.uniq {ims : List (Str × Str)} {kn : List (Str × Nat)} {fs ds : List PyData} (h : DrR ims kn fs ds) : ((fs ++ ds).map nameB).Nodup ∧ ds.map nameB = [("d1" : Str), "d2"] := by
  obtain ⟨b1, b2, rfl, _, _⟩ := h.dr
  obtain ⟨h1, h2, h3, _⟩ := h.fn.names
  have e : ([doD "d1" b1, doD "d2" b2].map nameB) = [("d1" : Str), "d2"] := rfl
  refine ⟨?_, e⟩
  rw [List.map_append, h1, e]
  refine List.nodup_append.mpr ⟨h2, by decide, fun x hx y hy e => ?_⟩
  obtain ⟨f, mf, rfl⟩ := List.mem_map.mp hx
  have q : ∀ z ∈ allN, z ∉ [("d1" : Str), "d2"] := by decide +kernel
  exact q _ (h3 f mf).1 (by rw [e]; exact hy)
theorem door_ok {z : Str} (h : goodN z = true) (b : List PyData) : doorHJ (doD z b) = true := by
  show (tupJ 4 4 (doD z b) && (goodN z && (goodN "p" && wJ 1 10000 (.int 7)))) = true
  rw [h, show goodN "p" = true by decide +kernel]
  rfl
theorem DrR.heads {ims : List (Str × Str)} {kn : List (Str × Nat)} {fs ds : List PyData} (h : DrR ims kn fs ds) : headsJ (.tuple fs) (.tuple ds) = true := by
  have u := h.uniq.1
  have f6 := h.f6
  obtain ⟨b1, b2, rfl, _, _⟩ := h.dr
  have h4 := h.fn.names.2.2.2
  have d0 : ([doD "d1" b1, doD "d2" b2]).all doorHJ = true := by
    rw [List.all_cons, List.all_cons, door_ok (by decide +kernel) b1, door_ok (by decide +kernel) b2]
    rfl
  show ((decide ((0 : Int) ≤ (fs.length : Int)) && decide ((fs.length : Int) ≤ 6)) && (tupJ 1 6 (.tuple [doD "d1" b1, doD "d2" b2]) && (fs.all funHJ && (([doD "d1" b1, doD "d2" b2]).all doorHJ && decide ((fs ++ [doD "d1" b1, doD "d2" b2]).map nameB).Nodup)))) = true
  rw [decide_eq_true (by omega), decide_eq_true (by omega), h4, d0, decide_eq_true u]
  rfl
theorem ctx_imps (ims : List (Str × Str)) (b : PyData) : (ctx0 (.tuple (ims.map imD)) b).imps = ims := by
  show (ims.map imD).map impP = ims
  rw [List.map_map]
  exact List.map_id'' (fun q => rfl) ims
theorem DrR.room {ims : List (Str × Str)} {kn : List (Str × Nat)} {fs ds : List PyData} (h : DrR ims kn fs ds) : roomJ (rmD ims fs ds) = true := by
  have hi : ∀ q ∈ ims, q ∈ (ctx0 (.tuple (ims.map imD)) (.tuple [.tuple [.str "b", .tuple [.int 1]]])).imps := fun q m => by rw [ctx_imps]; exact m
  have bo : ("b" : Str) ∈ (ctx0 (.tuple (ims.map imD)) (.tuple [.tuple [.str "b", .tuple [.int 1]]])).blks := List.mem_cons_self
  have h1 := h.fn.bodies hi bo
  have hh := h.heads
  have hp := h.fn.pars (ctx0 (.tuple (ims.map imD)) (.tuple [.tuple [.str "b", .tuple [.int 1]]]))
  have h2 := h.fn.names.2.2.1
  have im := h.imps
  obtain ⟨b1, b2, rfl, q1, q2⟩ := h.dr
  have r := addFs_rest (ctx0 (.tuple (ims.map imD)) (.tuple [.tuple [.str "b", .tuple [.int 1]]])) fs
  have pd : ∀ b, BdR kn ims b → partJ (addFs (ctx0 (.tuple (ims.map imD)) (.tuple [.tuple [.str "b", .tuple [.int 1]]])) fs) (.tuple b) = true := fun b hb =>
    hb.part (fun f m => ⟨hp f m, (h2 f m).2⟩) (by rw [r.1]; exact hi) (by rw [r.2]; exact bo)
  have bj : bodiesJ (ctx0 (.tuple (ims.map imD)) (.tuple [.tuple [.str "b", .tuple [.int 1]]])) fs [doD "d1" b1, doD "d2" b2] = true := by
    have e := bodiesJ_app (ctx0 (.tuple (ims.map imD)) (.tuple [.tuple [.str "b", .tuple [.int 1]]])) fs [] [doD "d1" b1, doD "d2" b2]
    rw [List.append_nil, h1, Bool.true_and] at e
    rw [e]
    show (partJ _ (.tuple b1) && (partJ _ (.tuple b2) && true)) = true
    rw [pd b1 q1, pd b2 q2]
    rfl
  show (tupJ 5 5 (rmD ims fs [doD "d1" b1, doD "d2" b2]) && (nameJ (.str "here") && (impsJ "here" (.tuple (ims.map imD)) && (blocksJ (.tuple [.tuple [.str "b", .tuple [.int 1]]]) && (headsJ (.tuple fs) (.tuple [doD "d1" b1, doD "d2" b2]) && bodiesJ (ctx0 (.tuple (ims.map imD)) (.tuple [.tuple [.str "b", .tuple [.int 1]]])) fs [doD "d1" b1, doD "d2" b2]))))) = true
  rw [im, hh, bj, show nameJ (.str "here") = true by decide +kernel, show blocksJ (.tuple [.tuple [.str "b", .tuple [.int 1]]]) = true by decide +kernel]
  rfl
end OH
end
section
set_option Elab.async false
set_option linter.all false
set_option maxRecDepth 100000
set_option maxHeartbeats 8000000
/-! What else holds of drawn rooms; nothing leads to itself. -/
namespace OH
open PySem PySem.Spec PyProof.Rows L2
theorem reach_rk {fs ds : List PyData} (un : ((fs ++ ds).map nameB).Nodup) (ok : RoOk fs ds) {p : PyData} {y : Str} (r : Reach (fs ++ ds) p y) : ∀ {k : Nat}, PtOk fs k p → Rk fs k y := by
  induction r with
  | one h =>
    intro k hp
    obtain ⟨x, m, e⟩ := List.mem_filterMap.mp h
    exact run_rk hp m e
  | more h hq _ ih =>
    intro k hp
    obtain ⟨x, m, e⟩ := List.mem_filterMap.mp h
    obtain ⟨j, f, lj, hf, en⟩ := run_rk hp m e
    have q := partOf_mem un (List.mem_append_left ds (List.mem_of_getElem? hf))
    rw [en, hq] at q
    injection q with q
    rw [q] at ih
    exact rk_mono (Nat.le_of_lt lj) (ih (ok.fn j f hf))
/-- nothing leads to itself -/
theorem reach_irr {fs ds : List PyData} (un : ((fs ++ ds).map nameB).Nodup) (ok : RoOk fs ds) {p : PyData} (hp : p ∈ fs ++ ds) {y : Str} (r : Reach (fs ++ ds) p y) : y ≠ nameB p := by
  intro e
  rcases List.mem_append.mp hp with m | m
  · obtain ⟨j, hj⟩ := List.mem_iff_getElem?.mp m
    obtain ⟨i, f, li, hf, en⟩ := reach_rk un ok r (ok.fn j p hj)
    have u2 : (fs.map nameB).Nodup := by
      rw [List.map_append] at un
      exact (List.nodup_append.mp un).1
    have e1 : (fs.map nameB)[i]? = some y := by rw [List.getElem?_map, hf, ← en]; rfl
    have e2 : (fs.map nameB)[j]? = some y := by rw [List.getElem?_map, hj, e]; rfl
    have il := (List.getElem?_eq_some_iff.mp e1).1
    have := (List.getElem?_inj il u2).mp (e1.trans e2.symm)
    omega
  · have q := reach_fn un ok r (ok.dr p m)
    rw [List.map_append] at un
    exact (List.nodup_append.mp un).2.2 y q (nameB p) (List.mem_map.mpr ⟨p, m, rfl⟩) e
theorem BdR.mono {kn kn' : List (Str × Nat)} {ims : List (Str × Str)} {body : List PyData} (h : BdR kn ims body) (s : ∀ f ∈ kn, f ∈ kn') : BdR kn' ims body := by
  obtain ⟨fns, ims', h1, h2, h3⟩ := h.ex
  exact ⟨⟨fns, ims', fun f m => s f (h1 f m), h2, h3⟩, h.few⟩
theorem FnsD.body {ims : List (Str × Str)} {kn : List (Str × Nat)} {fs : List PyData} (h : FnsD ims kn fs) : ∀ p ∈ fs, ∃ body, bodyD p = body ∧ BdR kn ims body ∧ nameB p ∈ allN := by
  induction h with
  | nil => exact fun p m => absurd m List.not_mem_nil
  | snoc h z ps body hz nz hp hb ih =>
    intro p m
    rcases List.mem_append.mp m with m | m
    · obtain ⟨b, e, q, r⟩ := ih p m
      exact ⟨b, e, q.mono fun f m => List.mem_append_left _ m, r⟩
    · rw [List.mem_singleton.mp m]
      exact ⟨body, rfl, hb.mono fun f m => List.mem_append_left _ m, hz⟩
theorem DrR.lw {ims : List (Str × Str)} {kn : List (Str × Nat)} {fs ds : List PyData} (h : DrR ims kn fs ds) {H : Hp} {v : V} (hv : DA NoZ H v (rmD ims fs ds)) : LwR H v "here" (.tuple (ims.map imD)) (.tuple [.tuple [.str "b", .tuple [.int 1]]]) fs ds := by
  obtain ⟨z, i, b, fs', ds', e, hR, jb, ji⟩ := roomJ_at hv h.room
  injection e with e
  injection e with e1 e
  injection e with e2 e
  injection e with e3 e
  injection e with e4 e
  injection e with e5 e
  injection e1 with e1
  injection e4 with e4
  injection e5 with e5
  subst e1 e2 e3 e4 e5
  have ok := bodies_ok hR.af hR.ad jb
  have all : ∀ p ∈ fs ++ ds, ∃ body, bodyD p = body ∧ BdR kn ims body ∧ PyData.strOk (nameB p) = true := fun p m => by
    have okN : ∀ z ∈ allN, PyData.strOk z = true := by decide +kernel
    rcases List.mem_append.mp m with m | m
    · obtain ⟨body, e, q, r⟩ := h.fn.body p m
      exact ⟨body, e, q, okN _ r⟩
    · obtain ⟨b1, b2, rfl, q1, q2⟩ := h.dr
      rcases List.mem_cons.mp m with rfl | m
      · exact ⟨b1, rfl, q1, (by decide +kernel : PyData.strOk "d1" = true)⟩
      · rw [List.mem_singleton.mp m]
        exact ⟨b2, rfl, q2, (by decide +kernel : PyData.strOk "d2" = true)⟩
  refine ⟨hR, ok, fun p m => (all p m).elim fun _ q => q.2.2, fun p m => ?_⟩
  obtain ⟨body, e, q, _⟩ := all p m
  obtain ⟨fns, ims', h1, h2, h3⟩ := q.ex
  have hp := h.fn.pars (ctx0 (.tuple (ims.map imD)) (.tuple [.tuple [.str "b", .tuple [.int 1]]]))
  have h22 := h.fn.names.2.2.1
  have r := addFs_rest (ctx0 (.tuple (ims.map imD)) (.tuple [.tuple [.str "b", .tuple [.int 1]]])) fs
  have cv : Cov (addFs (ctx0 (.tuple (ims.map imD)) (.tuple [.tuple [.str "b", .tuple [.int 1]]])) fs) fns ims' := ⟨fun f mf => ⟨hp f (h1 f mf), (h22 f (h1 f mf)).2⟩, fun x mx => by rw [r.1, ctx_imps]; exact h2 x mx, by rw [r.2]; exact List.mem_cons_self⟩
  have few := mb_nodes (R := fun _ => True) (fun z n e => ⟨trivial, addFs_four fs (ctx0 (.tuple (ims.map imD)) (.tuple [.tuple [.str "b", .tuple [.int 1]]])) (fun z m q => by cases q) hR.af z n e⟩) cv q.few h3
  have lr : (runsP p).length ≤ (nodesIn 12 (bodyD p)).length := List.length_filterMap_le isRun (nodesIn 12 (bodyD p))
  rw [e] at lr
  omega
end OH
end
section
set_option Elab.async false
set_option linter.all false
set_option maxRecDepth 100000
set_option maxHeartbeats 8000000
/-! The law's drawn rooms. -/
namespace OH
open PySem PySem.Spec PyProof.Rows L2
def spRunner : Sp := fun vs H Q _ => ∃ (st g c : Addr) (n : Nat), vs = [.ref st] ∧ SA H st g c n ∧ n + 2000 ≤ 500000 ∧
  ∀ v ims kn fs ds H', DrR ims kn fs ds → DA NoZ H' v (rmD ims fs ds) → SA H' st g c (n + 2000) → Fr st g H H' → Q v H'
abbrev T5 (i : Nat) : TE := tLst (tCons (tTup (tCons (tVar i) (tCons (tC (.str "go")) tNil))) (tCons (tTup (tCons (tVar i) (tCons (tC (.str "get")) tNil))) tNil))
theorem ev5 {σ : L2.St} {H : Hp} {i : Nat} {z : Str} (e : σ[i]? = some (some (.str z))) (h : z.length ≤ 1000) : EvLs (T5 i) σ H [imD (z, "go"), imD (z, "get")] :=
  evl_lst (evds_cons (evd_tup (evds_cons (evd_var e (.str z h)) (evds_cons (evd_str (by decide)) evds_nil)) (by show 2 ≤ 100; decide)) (evds_cons (evd_tup (evds_cons (evd_var e (.str z h)) (evds_cons (evd_str (by decide)) evds_nil)) (by show 2 ≤ 100; decide)) evds_nil)) (by show 2 ≤ 100; decide)
theorem cutV_to (xs : List V) (k : Nat) : cutV xs none (some (k : Int)) = xs.take k := by
  unfold cutV
  have e1 : HT.sIx xs.length 0 none = 0 := by simp [HT.sIx]
  rw [e1, HT.sIx_nat, List.drop_zero, Nat.sub_zero, ← List.take_eq_take_min]
theorem perm_imD {ds : List PyData} (h : ds.Perm (allP.map imD)) : ∃ qs : List (Str × Str), ds = qs.map imD ∧ qs.Perm allP := by
  refine ⟨ds.map impP, ?_, ?_⟩
  · rw [List.map_map]
    have e : ∀ d ∈ ds, (imD ∘ impP) d = d := fun d m => by
      obtain ⟨q, _, rfl⟩ := List.mem_map.mp (h.mem_iff.mp m)
      rfl
    exact ((List.map_congr_left e).trans (List.map_id'' (fun _ => rfl) ds)).symm
  · have q := h.map impP
    rw [List.map_map] at q
    exact q.trans (List.Perm.of_eq (List.map_id'' (fun _ => rfl) allP))
theorem perm_strs {ds : List PyData} {ks : List Str} (h : ds.Perm (ks.map PyData.str)) : ∃ zs : List Str, ds = zs.map PyData.str ∧ zs.Perm ks := by
  refine ⟨ds.map strD, ?_, ?_⟩
  · rw [List.map_map]
    have e : ∀ d ∈ ds, (PyData.str ∘ strD) d = d := fun d m => by
      obtain ⟨q, _, rfl⟩ := List.mem_map.mp (h.mem_iff.mp m)
      rfl
    exact ((List.map_congr_left e).trans (List.map_id'' (fun _ => rfl) ds)).symm
  · have q := h.map strD
    rw [List.map_map] at q
    exact q.trans (List.Perm.of_eq (List.map_id'' (fun _ => rfl) ks))
theorem das_strs {Z : Addr → Prop} {H : Hp} : ∀ {vs : List V} {zs : List Str}, DAs Z H vs (zs.map PyData.str) → vs = zs.map V.str
  | _, [], h => by cases h; rfl
  | _, z :: zs, h => by
    obtain ⟨v, vs, rfl, g, gs⟩ := h.consE
    rw [das_strs gs]
    cases g
    rfl
theorem das_of_strs {H : Hp} : ∀ (zs : List Str), (∀ z ∈ zs, z.length ≤ 1000) → DAs NoZ H (zs.map V.str) (zs.map PyData.str)
  | [], _ => .nil
  | z :: zs, h => .cons (.str z (h z List.mem_cons_self)) (das_of_strs zs fun y m => h y (List.mem_cons_of_mem _ m))
theorem allQ_short : ∀ ps ∈ allQ, ∀ z ∈ ps, z.length ≤ 1000 := by decide +kernel
section
variable {P : Program} {w : World} {K : PySem.W.Frag} {mg : Str → Option Value} {base : Heap}
abbrev nRr : List Str := ["state", "pairs", "label", "imports", "names", "functions", "known", "name", "params", "some", "doors", "one"]
theorem sc_rr : FnScope nRr ["state"] (defScope s__law_runner_room) := ⟨rfl, rfl, rfl, by decide +kernel, rfl, by decide +kernel, by decide +kernel⟩
theorem ok_rr {f : Addr} {fd : FuncData} (F : Fun K "_law_runner_room" "_law_runner_room" s__law_runner_room f fd) (T : Txt K mg) (DD : DefF P w K mg base CX0 9 "_law_draw" ["state", "room"] spDraw) (DS : DefF P w K mg base CX0 9 "_law_shuffled" ["state", "some"] spShufD)
    (DB : DefF P w K mg base CX0 9 "_law_mixed_body" pMb spMb) : FnOk P w K mg base CX0 10 f fd ["state"] spRunner := by
  refine F.ok sc_rr (fun vs H Q E h => ?_) (fun cdv A outer s H vs Q E hr h => ?_)
  · obtain ⟨st, g, c, n, rfl, _⟩ := h
    rfl
  · obtain ⟨st, g, c, n, rfl, S, hn, kk⟩ := h
    have nd0 := sc_rr.nd
    refine ⟨_, pss_cons (ps_set (i := 1) nd0 rfl (Or.inl rfl) (pe_lst pa_nil))
      (pss_cons (ps_for PassesOwn.never rfl (pi_list (pe_lst (pa_cons pe_str (pa_cons pe_str (pa_cons pe_str pa_nil))))) (pg_name (i := 2) nd0 rfl (Or.inl rfl))
        (pss_one (ps_set (i := 1) nd0 rfl (Or.inl rfl) (pe_op op_cat (pv 1) (pe_lst (pa_cons (pe_tup (pa_cons (pv 2) (pa_cons pe_str pa_nil))) (pa_cons (pe_tup (pa_cons (pv 2) (pa_cons pe_str pa_nil))) pa_nil)))))))
      (pss_cons (ps_set (i := 3) nd0 rfl (Or.inl rfl) (pe_slice sl_list (pe_cD DS hr rfl pass0 (pa_cons (pv 0) (pa_cons (pv 1) pa_nil))) po_none (po_some (pe_cD DD hr rfl pass0 (pa_cons (pv 0) (pa_cons pe_int pa_nil))))))
      (pss_cons (ps_set (i := 4) nd0 rfl (Or.inl rfl) (pe_cD DS hr rfl pass0 (pa_cons (pv 0) (pa_cons (pe_lst (pa_cons pe_str (pa_cons pe_str (pa_cons pe_str (pa_cons pe_str (pa_cons pe_str (pa_cons pe_str (pa_cons pe_str pa_nil)))))))) pa_nil))))
      (pss_cons (ps_par (i := 5) (j := 6) (by rfl) nd0 rfl rfl (by decide) rfl rfl (pa_cons (pe_lst pa_nil) (pa_cons (pe_lst pa_nil) pa_nil)) (by rfl))
      (pss_cons (ps_for PassesOwn.never rfl (pi_list (pe_slice sl_list (pv 4) po_none (po_some (pe_cD DD hr rfl pass0 (pa_cons (pv 0) (pa_cons pe_int pa_nil)))))) (pg_name (i := 7) nd0 rfl (Or.inl rfl))
        (pss_cons (ps_set (i := 8) nd0 rfl (Or.inl rfl) (pe_slice sl_list (pe_lst (pa_cons pe_str (pa_cons pe_str pa_nil))) po_none (po_some (pe_cD DD hr rfl pass0 (pa_cons (pv 0) (pa_cons pe_int pa_nil))))))
        (pss_cons (ps_setLc (i := 9) (own := [("one", 11)]) (g := gName 11) (tt := tTest (tOp rEq (tCall spDraw [] E0 (tCons (tVar 0) (tCons (tC (.int 2)) tNil))) (tC (.int 0)))) (te := tVar 11) rfl nd0 rfl rfl (sw_true rfl rfl rfl (by decide +kernel)) (pi_list (pv 6))
          (blkOk_by (own := [("one", 11)]) (N := nRr) (sc := defScope s__law_runner_room) (by decide +kernel)) (fun _ _ _ _ _ => pg_name (i := 11) nd0 rfl (Or.inl rfl))
          (fun _ _ _ _ _ => pts_one (pt_cmpR op_eq (pe_cD DD hr rfl pass0 (pa_cons (pv 0) (pa_cons pe_int pa_nil))) pe_int (nomark _))) (fun _ _ _ _ _ => pv 11))
        (pss_cons (ps_set (i := 1) nd0 rfl (Or.inl rfl) (pe_ifExp (pt_cmpR op_eq (pe_cD DD hr rfl pass0 (pa_cons (pv 0) (pa_cons pe_int pa_nil))) pe_int (nomark _)) (pv 3) (pe_lst pa_nil)))
        (pss_cons (ps_expr (pe_bm PySem.F.plainAttrs_list PySem.F.slot_list_append PySem.F.type_list_append mt_append (pv 5) (pa_cons (pe_tup (pa_cons (pv 7) (pa_cons (pe_callTy call_tuple_of (by rfl) T.nTuple (by decide +kernel) (pa_cons (pv 8) pa_nil)) (pa_cons (pe_cD DB hr rfl pass0 (pa_cons (pv 0) (pa_cons (pv 9) (pa_cons (pv 1) pa_nil)))) pa_nil)))) pa_nil)))
        (pss_one (ps_expr (pe_bm PySem.F.plainAttrs_list PySem.F.slot_list_append PySem.F.type_list_append mt_append (pv 6) (pa_cons (pe_tup (pa_cons (pv 7) (pa_cons (pe_callB call_len_seq (by rfl) T.nLen PySem.boot_len (pa_cons (pv 8) pa_nil)) pa_nil))) pa_nil)))))))))
      (pss_cons (ps_set (i := 10) nd0 rfl (Or.inl rfl) (pe_lst pa_nil))
      (pss_cons (ps_for PassesOwn.never rfl (pi_list (pe_lst (pa_cons pe_str (pa_cons pe_str pa_nil)))) (pg_name (i := 7) nd0 rfl (Or.inl rfl))
        (pss_cons (ps_setLc (i := 9) (own := [("one", 11)]) (g := gName 11) (tt := tTest (tOp rEq (tCall spDraw [] E0 (tCons (tVar 0) (tCons (tC (.int 3)) tNil))) (tC (.int 0)))) (te := tVar 11) rfl nd0 rfl rfl (sw_true rfl rfl rfl (by decide +kernel)) (pi_list (pv 6))
          (blkOk_by (own := [("one", 11)]) (N := nRr) (sc := defScope s__law_runner_room) (by decide +kernel)) (fun _ _ _ _ _ => pg_name (i := 11) nd0 rfl (Or.inl rfl))
          (fun _ _ _ _ _ => pts_one (pt_cmpR op_eq (pe_cD DD hr rfl pass0 (pa_cons (pv 0) (pa_cons pe_int pa_nil))) pe_int (nomark _))) (fun _ _ _ _ _ => pv 11))
        (pss_one (ps_expr (pe_bm PySem.F.plainAttrs_list PySem.F.slot_list_append PySem.F.type_list_append mt_append (pv 10) (pa_cons (pe_tup (pa_cons (pv 7) (pa_cons pe_str (pa_cons pe_int (pa_cons (pe_cD DB hr rfl pass0 (pa_cons (pv 0) (pa_cons (pv 9) (pa_cons (pe_slice sl_list (pv 3) po_none (po_some pe_int)) pa_nil)))) pa_nil))))) pa_nil))))))
      (pss_one (ps_ret (pe_tup (pa_cons pe_str (pa_cons (pe_callTy call_tuple_of (by rfl) T.nTuple (by decide +kernel) (pa_cons (pv 3) pa_nil)) (pa_cons (pe_tup (pa_cons (pe_tup (pa_cons pe_str (pa_cons (pe_tup (pa_cons pe_int pa_nil)) pa_nil))) pa_nil)) (pa_cons (pe_callTy call_tuple_of (by rfl) T.nTuple (by decide +kernel) (pa_cons (pv 5) pa_nil)) (pa_cons (pe_callTy call_tuple_of (by rfl) T.nTuple (by decide +kernel) (pa_cons (pv 10) pa_nil)) pa_nil)))))))))))))))
, ?_⟩
    have sL := sizeLine_eq
    refine ⟨(by show 0 ≤ sizeLine; decide), fun a0 na0 => ?_⟩
    have s1 := sadd (o := .lst []) (Same.refl H) na0
    have ha1 : upd H a0 (.lst []) a0 = some (.lst []) := upd_same
    generalize upd H a0 (.lst []) = H1 at s1 ha1 ⊢
    refine ⟨(by show 3 ≤ sizeLine; decide), fun L nL => ?_⟩
    have s2 := sadd (o := .lst [.str "east", .str "west", .str "up"]) (Same.refl H1) nL
    have hL : upd H1 L (.lst [.str "east", .str "west", .str "up"]) L = some (.lst [.str "east", .str "west", .str "up"]) := upd_same
    generalize upd H1 L (.lst [.str "east", .str "west", .str "up"]) = H2 at s2 hL ⊢
    have s02 := s1.trans s2
    refine ⟨L, rfl, ⟨_, SqL.of hL⟩, ?_⟩
    refine for_list (xs := [.str "east", .str "west", .str "up"]) (fun j σ H' => ∃ (o : Option V) (a : Addr) (xs : List V), σ = [some (.ref st), some (.ref a), o, none, none, none, none, none, none, none, none, none] ∧ Same H2 H' ∧ H a = none ∧ H' a = some (.lst xs) ∧ DAs NoZ H' xs ((allP.take (2 * j)).map imD))
      ⟨none, a0, [], rfl, Same.refl H2, na0, s2 _ _ ha1, .nil⟩ (fun j σ H' _ ⟨o, a, xs, _, c, _⟩ => SqL.of (c _ _ hL)) ?turn ?done
    case turn =>
      rintro j x σ H3 hx ⟨o, a, xs, rfl, s3, na, ha, hd⟩
      obtain ⟨z, rfl, hz, et⟩ : ∃ z : Str, x = .str z ∧ z.length ≤ 1000 ∧ (allP.take (2 * (j + 1))).map imD = (allP.take (2 * j)).map imD ++ [imD (z, "go"), imD (z, "get")] := by
        match j, hx with
        | 0, h => cases h; exact ⟨_, rfl, by decide, rfl⟩
        | 1, h => cases h; exact ⟨_, rfl, by decide, rfl⟩
        | 2, h => cases h; exact ⟨_, rfl, by decide, rfl⟩
        | n + 3, h => cases h
      have lt : xs.length ≤ 6 := by
        rw [hd.len, List.length_map, List.length_take]
        exact Nat.min_le_right _ _
      have q := ev5 (σ := [some (.ref st), some (.ref a), some (.str z), none, none, none, none, none, none, none, none, none]) (H := H3) (i := 2) (z := z) rfl hz
      refine ⟨_, rfl, ?_⟩
      refine q H3 _ (Same.refl H3) fun p vs H4 s4 np hp hv => ?_
      have lv := hv.len
      refine ⟨a, p, xs, vs, rfl, rfl, s4 _ _ ha, hp, by rw [lv]; show xs.length + 2 ≤ sizeLine; omega, fun l nl => ?_⟩
      have sl := sadd (o := .lst (xs ++ vs)) (Same.refl H4) nl
      refine ⟨some (.str z), l, xs ++ vs, rfl, s3.trans (s4.trans sl), (s02.trans (s3.trans s4)).free nl, upd_same, ?_⟩
      rw [et]
      exact ((hd.same s4).app hv).same sl
    case done =>
      rintro σ H3 ⟨o, pa, ps, rfl, s3, npa, hpa, hps⟩
      have hps : DAs NoZ H3 ps (allP.map imD) := hps
      have s03 := s02.trans s3
      have S3 := S.same s03
      have F3 : Fr st g H H3 := Fr.of s03
      have zpa := S.old npa
      have lps : ps.length = 6 := hps.len
      refine ⟨_, rfl, _, rfl, st, g, c, pa, n, ps, allP.map imD, rfl, S3, by omega, hpa, hps, ?_, zpa.2.1, by omega, fun ia0 is0 di0 H4 n4 z41 z42 z43 h4 hd4 pm4 S4 F4 => ?_⟩
      · intro d m
        have q : ∀ p ∈ allP, PyData.canLay0 (imD p) = true := by decide +kernel
        obtain ⟨p, hp, rfl⟩ := List.mem_map.mp m
        exact ⟨q p hp, by show 1 ≤ 60; decide⟩
      refine ⟨_, rfl, st, g, c, n + ps.length, 7, rfl, S4, by omega, by decide, by decide, fun m1 H5 m10 m11 S5 F5 => ?_⟩
      obtain ⟨k1, rfl⟩ : ∃ k : Nat, m1 = (k : Int) := ⟨m1.toNat, (Int.toNat_of_nonneg m10).symm⟩
      have F05 := (F3.trans F4).trans F5
      have hi5 := F5 ia0 _ h4 z41 z42
      refine ⟨(k1 : Int), rfl, ia0, is0, rfl, SqL.of hi5, fun ia nia => ?_⟩
      rw [cutV_to]
      obtain ⟨qs, rfl, pq⟩ := perm_imD pm4
      have zia := S5.old nia
      have nia0 := F05.free nia zia.1 zia.2.1
      have hd5 := hd4.mono (fr_tup S4 F5)
      have s56 := sadd (o := .lst (is0.take k1)) (Same.refl H5) nia
      have hia : upd H5 ia (.lst (is0.take k1)) ia = some (.lst (is0.take k1)) := upd_same
      have hdi : DAs NoZ (upd H5 ia (.lst (is0.take k1))) (is0.take k1) ((qs.take k1).map imD) := by
        rw [List.map_take]
        exact (hd5.take k1).same s56
      have S6 := S5.put (o := .lst (is0.take k1)) zia
      have F6 : Fr st g H (upd H5 ia (.lst (is0.take k1))) := F05.out nia0
      generalize upd H5 ia (.lst (is0.take k1)) = H6 at s56 hia hdi S6 F6 ⊢
      have iu : (qs.take k1).Nodup := (pq.nodup_iff.mpr (by decide +kernel : allP.Nodup)).sublist (List.take_sublist _ _)
      have ip : ∀ q ∈ qs.take k1, q ∈ allP := fun q m => pq.mem_iff.mp (List.mem_of_mem_take m)
      have il : (qs.take k1).length ≤ 6 := len_sub (ls := allP) iu ip
      generalize qs.take k1 = ims at hdi iu ip il
      generalize is0.take k1 = is at hia hdi
      clear hd5 hi5 hd4 h4 pm4 pq
      refine ⟨_, rfl, (by show 7 ≤ sizeLine; decide), fun nl nnl => ?_⟩
      have s67 := sadd (o := .lst (allN.map V.str)) (Same.refl H6) nnl
      have hnl : upd H6 nl (.lst (allN.map V.str)) nl = some (.lst (allN.map V.str)) := upd_same
      have znl := S6.old nnl
      refine ⟨st, g, c, nl, n + ps.length + 1, allN.map V.str, allN.map PyData.str, rfl, S6.put znl, by omega, hnl, ?_, ?_, znl.2.1, by show 7 ≤ 1000; decide, fun na ns dn H8 n8 z81 z82 z83 h8 hd8 pm8 S8 F8 => ?_⟩
      · exact .cons (.str _ (by decide)) (.cons (.str _ (by decide)) (.cons (.str _ (by decide)) (.cons (.str _ (by decide)) (.cons (.str _ (by decide)) (.cons (.str _ (by decide)) (.cons (.str _ (by decide)) .nil))))))
      · exact flat_strs (by decide +kernel)
      obtain ⟨zs, rfl, pz⟩ := perm_strs pm8
      obtain rfl := das_strs hd8
      have l7 : (allN.map V.str).length = 7 := rfl
      rw [l7] at S8
      have F08 := (F6.out (F6.free nnl znl.1 znl.2.1)).trans F8
      have hia8 : H8 ia = some (.lst is) := F8 ia _ (s67 _ _ hia) zia.1 zia.2.1
      have hdi8 := (hdi.same s67).mono (fr_tup (S6.put (o := .lst (allN.map V.str)) znl) F8)
      clear hd8 pm8
      refine ⟨(by show 0 ≤ sizeLine; decide), fun fo nfo => ⟨(by show 0 ≤ sizeLine; decide), fun ko nko => ⟨_, _, rfl, ?_⟩⟩⟩
      have zfo := S8.old nfo
      have fo0 := F08.free nfo zfo.1 zfo.2.1
      have sfo := sadd (o := .lst []) (Same.refl H8) nfo
      have zko := S8.old (sfo.free nko)
      have ko0 := F08.free (sfo.free nko) zko.1 zko.2.1
      have sko := sadd (o := .lst []) sfo nko
      have nfk : fo ≠ ko := ne_of_none upd_same nko
      have hfo : upd (upd H8 fo (.lst [])) ko (.lst []) fo = some (.lst []) := upd_under nfk
      have hko : upd (upd H8 fo (.lst [])) ko (.lst []) ko = some (.lst []) := upd_same
      have S9 := S8.same sko
      have F9 := F08.trans (Fr.of sko)
      have hia9 := sko _ _ hia8
      have hdi9 := hdi8.same sko
      have hna9 := sko _ _ h8
      generalize upd (upd H8 fo (.lst [])) ko (.lst []) = H9 at sko hfo hko S9 F9 hia9 hdi9 hna9 ⊢
      refine ⟨_, rfl, _, rfl, st, g, c, _, 7, rfl, S9, by omega, by decide, by decide, fun m2 H10 m20 m21 S10 F10 => ?_⟩
      obtain ⟨k2, rfl⟩ : ∃ k : Nat, m2 = (k : Int) := ⟨m2.toNat, (Int.toNat_of_nonneg m20).symm⟩
      refine ⟨(k2 : Int), rfl, na, zs.map V.str, rfl, SqL.of (F10 na _ hna9 z81 z82), fun cl ncl => ?_⟩
      rw [cutV_to, ← List.map_take]
      have zcl := S10.old ncl
      have F010 := F9.trans F10
      have cl0 := F010.free ncl zcl.1 zcl.2.1
      have scl := sadd (o := .lst ((zs.take k2).map V.str)) (Same.refl H10) ncl
      have hcl : upd H10 cl (.lst ((zs.take k2).map V.str)) cl = some (.lst ((zs.take k2).map V.str)) := upd_same
      have S11 := S10.put (o := .lst ((zs.take k2).map V.str)) zcl
      have F11 : Fr st g H (upd H10 cl (.lst ((zs.take k2).map V.str))) := F010.out cl0
      have hfo10 := scl _ _ (F10 fo _ hfo zfo.1 zfo.2.1)
      have hko10 := scl _ _ (F10 ko _ hko zko.1 zko.2.1)
      have hia10 := scl _ _ (F10 ia _ hia9 zia.1 zia.2.1)
      have hdi10 := (hdi9.mono (fr_tup S9 F10)).same scl
      generalize upd H10 cl (.lst ((zs.take k2).map V.str)) = H11 at scl hcl S11 F11 hfo10 hko10 hia10 hdi10 ⊢
      have zn : (zs.take k2).Nodup := (pz.nodup_iff.mpr (by decide +kernel : allN.Nodup)).sublist (List.take_sublist _ _)
      have zi : ∀ z ∈ zs.take k2, z ∈ allN := fun z m => pz.mem_iff.mp (List.mem_of_mem_take m)
      have z6 : (zs.take k2).length ≤ 6 := by rw [List.length_take]; omega
      generalize zs.take k2 = zr at hcl zn zi z6 ⊢
      refine ⟨cl, rfl, ⟨_, SqL.of hcl⟩, ?_⟩
      -- what holds ahead of the j-th name
      refine for_list (xs := zr.map V.str) (fun j σ H' => ∃ (o1 o2 o7 o8 o9 : Option V) (kn : List (Str × Nat)) (fs : List PyData) (xF xK : List V), σ = [some (.ref st), o1, o2, some (.ref ia), some (.ref na), some (.ref fo), some (.ref ko), o7, o8, o9, none, none] ∧
          H' cl = some (.lst (zr.map V.str)) ∧ H' fo = some (.lst xF) ∧ DAs NoZ H' xF fs ∧ H' ko = some (.lst xK) ∧ DAs NoZ H' xK (kn.map fnD) ∧ H' ia = some (.lst is) ∧ DAs NoZ H' is (ims.map imD) ∧ FnsD ims kn fs ∧ fs.length = j ∧ (∀ f ∈ kn, f.1 ∈ zr.take j) ∧
          SA H' st g c (n + 20 + j * 150) ∧ Fr st g H H')
        ⟨_, _, none, none, none, [], [], [], [], rfl, hcl, hfo10, .nil, hko10, .nil, hia10, hdi10, .nil, rfl, fun f m => absurd m List.not_mem_nil, S11.mono (by omega), F11⟩
        (fun j σ H' _ ⟨_, _, _, _, _, _, _, _, _, _, h, _⟩ => SqL.of h) ?turnF ?doneF
      case turnF =>
        rintro j x σ Ht hx ⟨o1, o2, o7, o8, o9, kn, fs, xF, xK, rfl, tcl, tfo, tF, tko, tK, tia, tdi, tfn, tlf, tkz, St, Ft⟩
        rw [List.getElem?_map] at hx
        obtain ⟨z, hz, rfl⟩ := Option.map_eq_some_iff.mp hx
        have zm := zi z (List.mem_of_getElem? hz)
        have zl : z.length ≤ 1000 := (by decide +kernel : ∀ z ∈ allN, z.length ≤ 1000) z zm
        have j6 : j < zr.length := (List.getElem?_eq_some_iff.mp hz).1
        refine ⟨(by show 2 ≤ sizeLine; decide), fun pl npl => ?_⟩
        have zpl := St.old npl
        have spl := sadd (o := .lst [.str "m", .str "n"]) (Same.refl Ht) npl
        have hpl : upd Ht pl (.lst [.str "m", .str "n"]) pl = some (.lst [.str "m", .str "n"]) := upd_same
        have Sa := St.same spl
        have Fa : Fr st g Ht (upd Ht pl (.lst [.str "m", .str "n"])) := Fr.of spl
        generalize upd Ht pl (.lst [.str "m", .str "n"]) = Ha at spl hpl Sa Fa ⊢
        refine ⟨_, rfl, st, g, c, _, 3, rfl, Sa, by omega, by decide, by decide, fun m3 Hb m30 m31 Sb Fb => ?_⟩
        obtain ⟨k3, rfl⟩ : ∃ k : Nat, m3 = (k : Int) := ⟨m3.toNat, (Int.toNat_of_nonneg m30).symm⟩
        refine ⟨(k3 : Int), rfl, pl, _, rfl, SqL.of (Fb pl _ hpl zpl.1 zpl.2.1), fun pp npp => ?_⟩
        rw [cutV_to]
        obtain ⟨prs, pq, hprs⟩ : ∃ prs ∈ allQ, [V.str "m", V.str "n"].take k3 = prs.map V.str := by
          have : k3 = 0 ∨ k3 = 1 ∨ k3 = 2 := by omega
          rcases this with rfl | rfl | rfl
          · exact ⟨[], by decide +kernel, rfl⟩
          · exact ⟨["m"], by decide +kernel, rfl⟩
          · exact ⟨["m", "n"], by decide +kernel, rfl⟩
        rw [hprs]
        have zpp := Sb.old npp
        have Fab := Fa.trans Fb
        have pp0 := Fab.free npp zpp.1 zpp.2.1
        have spp := sadd (o := .lst (prs.map V.str)) (Same.refl Hb) npp
        have hpp : upd Hb pp (.lst (prs.map V.str)) pp = some (.lst (prs.map V.str)) := upd_same
        have Sc := Sb.same spp
        have Fc := Fab.trans (Fr.of spp)
        generalize upd Hb pp (.lst (prs.map V.str)) = Hc at spp hpp Sc Fc ⊢
        have cko := Fc ko _ tko zko.1 zko.2.1
        have cK := tK.mono (fr_tup St Fc)
        refine ⟨_, rfl, ko, rfl, ⟨_, SqL.of cko⟩, fun LL nLL => ?_⟩
        have zLL := Sc.old nLL
        have LL0 := Fc.free nLL zLL.1 zLL.2.1
        have lK : xK.length = kn.length := by rw [cK.len, List.length_map]
        have lkn : kn.length ≤ 6 := by
          have e := congrArg List.length tfn.names.1
          rw [List.length_map, List.length_map] at e
          omega
        refine lc_it (walk_list (xs := xK)) (fun i H' => ∃ (ys : List V) (sub : List (Str × Nat)), H' LL = some (.lst ys) ∧ DAs NoZ H' ys (sub.map fnD) ∧ (∀ f ∈ sub, f ∈ kn) ∧ sub.length ≤ i ∧ SA H' st g c (n + 20 + j * 150 + 1 + i) ∧ Fr st g Hc H')
          ⟨[], [], upd_same, .nil, fun f m => absurd m List.not_mem_nil, Nat.le_refl _, Sc.put zLL, (Fr.refl st g Hc).out nLL⟩ (fun i H' _ ⟨_, _, _, _, _, _, _, h⟩ => SqL.of (h ko _ cko zko.1 zko.2.1)) ?tl ?dl
        case tl =>
          rintro i x3 Hd He hi ⟨ys, sub, hLL, hys, hsub, hls, Sd, Fd⟩ ⟨rfl, hx3⟩
          obtain ⟨d, hd3, hda⟩ := cK.get hx3
          rw [List.getElem?_map] at hd3
          obtain ⟨f3, hf3, rfl⟩ := Option.map_eq_some_iff.mp hd3
          have mf3 := List.mem_of_getElem? hf3
          have ik : i < xK.length := hi
          refine ⟨rfl, _, rfl, st, g, c, _, 2, rfl, Sd, by omega, by decide, by decide, fun m4 Hf m40 m41 Sf Ff => ⟨rfl, _, rfl, ?_⟩⟩
          have Fcf := Fd.trans Ff
          have hLLf := Ff LL _ hLL zLL.1 zLL.2.1
          have hysf := hys.mono (fr_tup Sd Ff)
          by_cases q : m4 = 0
          · try dsimp only []
            rw [if_pos (by rw [q]; rfl)]
            have kt : ∀ (o : List V) r xs, Hf r = some (.tup xs) → upd Hf LL (.lst o) r = some (.tup xs) := fun o r xs e => (upd_ne (ne_of e hLLf (fun y => nomatch y))).trans e
            have lys : ys.length = sub.length := by rw [hys.len, List.length_map]
            refine ⟨_, rfl, ys, hLLf, by omega, ys ++ [x3], sub ++ [f3], upd_same, ?_, fun f m => ?_, by rw [List.length_append]; exact Nat.add_le_add_right hls 1, Sf.put zLL, Fcf.out nLL⟩
            · rw [List.map_append]
              exact (hysf.mono (kt _)).app (.cons ((hda.mono (fr_tup Sc Fcf)).mono (kt _)) .nil)
            · rcases List.mem_append.mp m with m | m
              · exact hsub f m
              · rw [List.mem_singleton.mp m]; exact mf3
          · try dsimp only []
            rw [if_neg (by intro e; exact q (by have := of_decide_eq_true e; injection this))]
            exact ⟨ys, sub, hLLf, hysf, hsub, by omega, Sf, Fcf⟩
        case dl =>
          rintro Hd ⟨ys, sub, hLL, hys, hsub, hls, Sd, Fd⟩
          rw [lK] at hls Sd
          refine ⟨_, rfl, st, g, c, _, 2, rfl, Sd, by omega, by decide, by decide, fun m5 Hg m50 m51 Sg Fg => ⟨rfl, _, rfl, ?_⟩⟩
          have hLLg := Fg LL _ hLL zLL.1 zLL.2.1
          have hysg := hys.mono (fr_tup Sd Fg)
          have Fcg := Fd.trans Fg
          have giA := Fcg ia _ (Fc ia _ tia zia.1 zia.2.1) zia.1 zia.2.1
          have gdi := (tdi.mono (fr_tup St Fc)).mono (fr_tup Sc Fcg)
          refine' cutPH (A := fun p H' => ∃ (ims' : List (Str × Str)) (ys' : List V), (∀ q ∈ ims', q ∈ ims) ∧ ims'.length ≤ 6 ∧ H' p = some (.lst ys') ∧ DAs NoZ H' ys' (ims'.map imD) ∧ p ≠ g ∧ Same Hg H') (fun key => ?_) ?_
          rotate_left
          · by_cases q : ¬ m5 = 0
            · rw [decide_eq_false (show ¬ V.int m5 = V.int 0 by intro e; injection e with e; exact q e)]
              refine ⟨(by show 0 ≤ sizeLine; decide), fun e ne => ?_⟩
              have ze := Sg.old ne
              have se := sadd (o := .lst []) (Same.refl Hg) ne
              have he : upd Hg e (.lst []) e = some (.lst []) := upd_same
              generalize upd Hg e (.lst []) = Hq at se he ⊢
              exact key e Hq ⟨[], [], fun q m => absurd m List.not_mem_nil, by decide, he, .nil, ze.2.1, se⟩
            · have q0 : m5 = 0 := Classical.not_not.mp q
              rw [decide_eq_true (show V.int m5 = V.int 0 by rw [q0])]
              exact ⟨_, rfl, key ia Hg ⟨ims, is, fun q m => m, il, giA, gdi, zia.2.1, Same.refl Hg⟩⟩
          rintro p Hh ⟨ims', ys', isub, i6, hp, hdp, pg, sgh⟩
          have Sh := Sg.same sgh
          have Fch := Fcg.trans (Fr.of sgh)
          have Fth := Fc.trans Fch
          have okN : ∀ z ∈ allN, PyData.strOk z = true := by decide +kernel
          have okP : ∀ q ∈ allP, PyData.strOk q.1 = true ∧ PyData.strOk q.2 = true := by decide +kernel
          have M : MxA Hh g LL p sub ims' := ⟨⟨ys, sgh _ _ hLLg, hysg.same sgh⟩, zLL.2.1, ⟨ys', hp, hdp⟩, pg, by omega, i6, fun f m => ⟨(tfn.names.2.2.1 f (hsub f m)).2, okN _ (tfn.names.2.2.1 f (hsub f m)).1⟩, fun q m => okP q (ip q (isub q m))⟩
          have hfoh := Fth fo _ tfo zfo.1 zfo.2.1
          have hpph := Fch pp _ hpp zpp.1 zpp.2.1
          refine ⟨_, rfl, .inl ⟨rfl, _, SqL.of hfoh⟩, _, rfl, _, rfl, pp, _, rfl, .inl ⟨SqL.of hpph, fun tq ntq => ?_⟩⟩
          have ztq := Sh.old ntq
          have stq := sadd (o := .tup (prs.map V.str)) (Same.refl Hh) ntq
          have htq : upd Hh tq (.tup (prs.map V.str)) tq = some (.tup (prs.map V.str)) := upd_same
          have Si := Sh.same stq
          have Fhi : Fr st g Hh (upd Hh tq (.tup (prs.map V.str))) := Fr.of stq
          have Mi := M.same stq
          generalize upd Hh tq (.tup (prs.map V.str)) = Hi at stq htq Si Fhi Mi ⊢
          refine ⟨_, rfl, _, rfl, _, rfl, st, g, c, LL, p, _, sub, ims', rfl, Si, by omega, Mi, fun b xb db Hj hb hdb lb hms Sj Fj => ⟨(by show 3 ≤ sizeLine; decide), fun fq nfq => ?_⟩⟩
          have Ftj := (Fth.trans Fhi).trans Fj
          have F0j := Ft.trans Ftj
          have zfq := Sj.old nfq
          have sfq := sadd (o := .tup [.str z, .ref tq, .ref b]) (Same.refl Hj) nfq
          have hfq : upd Hj fq (.tup [.str z, .ref tq, .ref b]) fq = some (.tup [.str z, .ref tq, .ref b]) := upd_same
          have tqj := fr_tup Si Fj tq _ htq
          have fq0 := F0j.free nfq zfq.1 zfq.2.1
          have Sk := Sj.put (o := .tup [.str z, .ref tq, .ref b]) zfq
          have F0k := F0j.out (o := .tup [.str z, .ref tq, .ref b]) fq0
          have jfo := sfq _ _ (Ftj fo _ tfo zfo.1 zfo.2.1)
          have jko := sfq _ _ (Ftj ko _ tko zko.1 zko.2.1)
          have jia := sfq _ _ (Ftj ia _ tia zia.1 zia.2.1)
          have jcl := sfq _ _ (Ftj cl _ tcl zcl.1 zcl.2.1)
          have jpp := sfq _ _ (((Fr.trans Fch Fhi).trans Fj) pp _ hpp zpp.1 zpp.2.1)
          have jF := (tF.mono (fr_tup St Ftj)).same sfq
          have jK := (tK.mono (fr_tup St Ftj)).same sfq
          have jdi := (tdi.mono (fr_tup St Ftj)).same sfq
          have dfq : DA NoZ (upd Hj fq (.tup [.str z, .ref tq, .ref b])) (.ref fq) (fuD z prs db) := DA.tup hfq (.cons (.str z zl) (.cons (DA.tup (sfq _ _ tqj) (das_of_strs prs (allQ_short prs pq))) (.cons (DA.tup (sfq _ _ hb) (hdb.same sfq)) .nil)))
          generalize upd Hj fq (.tup [.str z, .ref tq, .ref b]) = Hk at Sk F0k jfo jko jia jcl jpp jF jK jdi dfq ⊢
          have lxF : xF.length = fs.length := tF.len
          refine ⟨fo, xF, .ref fq, rfl, rfl, jfo, by omega, ?_⟩
          have kt1 : ∀ r xs, Hk r = some (.tup xs) → upd Hk fo (.lst (xF ++ [.ref fq])) r = some (.tup xs) := fun r xs e => (upd_ne (ne_of e jfo (fun y => nomatch y))).trans e
          have nif : ia ≠ fo := ne_of_none hia8 nfo
          have nik : ia ≠ ko := ne_of_none hia8 (sfo.free nko)
          have ncf : cl ≠ fo := fun e => by
            have q := F10 fo _ hfo zfo.1 zfo.2.1
            rw [← e, ncl] at q
            cases q
          have nck : cl ≠ ko := fun e => by
            have q := F10 ko _ hko zko.1 zko.2.1
            rw [← e, ncl] at q
            cases q
          have npf : pp ≠ fo := fun e => by
            have q := Fab fo _ tfo zfo.1 zfo.2.1
            rw [← e, npp] at q
            cases q
          have Sl := Sk.put (o := .lst (xF ++ [.ref fq])) zfo
          have F0l := F0k.out (o := .lst (xF ++ [.ref fq])) fo0
          have lfo : upd Hk fo (.lst (xF ++ [.ref fq])) fo = some (.lst (xF ++ [.ref fq])) := upd_same
          have lko := (upd_ne (o := .lst (xF ++ [.ref fq])) nfk.symm).trans jko
          have lia := (upd_ne (o := .lst (xF ++ [.ref fq])) nif).trans jia
          have lcl := (upd_ne (o := .lst (xF ++ [.ref fq])) ncf).trans jcl
          have lpp := (upd_ne (o := .lst (xF ++ [.ref fq])) npf).trans jpp
          have lF := (jF.mono kt1).app (.cons (dfq.mono kt1) .nil)
          have lK' := jK.mono kt1
          have ldi := jdi.mono kt1
          generalize upd Hk fo (.lst (xF ++ [.ref fq])) = Hl at Sl F0l lfo lko lia lcl lpp lF lK' ldi ⊢
          refine ⟨_, rfl, .inl ⟨rfl, _, SqL.of lko⟩, _, rfl, _, rfl, pp, _, rfl, .inl (SqL.of lpp), (by show 2 ≤ sizeLine; decide), fun kq nkq => ?_⟩
          rw [List.length_map]
          have zkq := Sl.old nkq
          have kq0 := F0l.free nkq zkq.1 zkq.2.1
          have skq := sadd (o := .tup [.str z, .int (prs.length : Nat)]) (Same.refl Hl) nkq
          have hkq : upd Hl kq (.tup [.str z, .int (prs.length : Nat)]) kq = some (.tup [.str z, .int (prs.length : Nat)]) := upd_same
          have Sm := Sl.put (o := .tup [.str z, .int (prs.length : Nat)]) zkq
          have F0m := F0l.out (o := .tup [.str z, .int (prs.length : Nat)]) kq0
          have mfo := skq _ _ lfo
          have mko := skq _ _ lko
          have mia := skq _ _ lia
          have mcl := skq _ _ lcl
          have mF := lF.same skq
          have mK := lK'.same skq
          have mdi := ldi.same skq
          have dkq : DA NoZ (upd Hl kq (.tup [.str z, .int (prs.length : Nat)])) (.ref kq) (fnD (z, prs.length)) := DA.tup hkq (.cons (.str z zl) (.cons (.int _) .nil))
          generalize upd Hl kq (.tup [.str z, .int (prs.length : Nat)]) = Hm at Sm F0m mfo mko mia mcl mF mK mdi dkq ⊢
          have kt2 : ∀ r xs, Hm r = some (.tup xs) → upd Hm ko (.lst (xK ++ [.ref kq])) r = some (.tup xs) := fun r xs e => (upd_ne (ne_of e mko (fun y => nomatch y))).trans e
          have nz : z ∉ kn.map (·.1) := fun m => by
            obtain ⟨f, mf, e⟩ := List.mem_map.mp m
            have q := tkz f mf
            rw [e] at q
            obtain ⟨i, hi⟩ := List.mem_iff_getElem?.mp q
            have il := (List.getElem?_eq_some_iff.mp hi).1
            rw [List.length_take] at il
            rw [List.getElem?_take] at hi
            split at hi
            · have := (List.getElem?_inj (by omega) zn).mp (hi.trans hz.symm)
              omega
            · cases hi
          refine ⟨ko, xK, .ref kq, rfl, rfl, mko, by omega, _, _, _, _, _, kn ++ [(z, prs.length)], fs ++ [fuD z prs db], xF ++ [.ref fq], xK ++ [.ref kq], rfl, (upd_ne nck).trans mcl, (upd_ne nfk).trans mfo, mF.mono kt2, upd_same, ?_, (upd_ne nik).trans mia, mdi.mono kt2, .snoc tfn z prs db zm nz pq ⟨⟨sub, ims', hsub, isub, hms⟩, lb⟩, by rw [List.length_append, tlf]; rfl, fun f m => ?_, (Sm.put zko).mono (by omega), F0m.out ko0⟩
          · rw [List.map_append]
            exact (mK.mono kt2).app (.cons (dkq.mono kt2) .nil)
          · rw [List.take_add_one, hz]
            rcases List.mem_append.mp m with m | m
            · exact List.mem_append_left _ (tkz f m)
            · rw [List.mem_singleton.mp m]; exact List.mem_append_right _ (List.mem_singleton.mpr rfl)
      case doneF =>
        rintro σ Ht ⟨o1, o2, o7, o8, o9, kn, fs, xF, xK, rfl, tcl, tfo, tF, tko, tK, tia, tdi, tfn, tlf, tkz, St, Ft⟩
        rw [List.length_map] at tlf St
        refine ⟨(by show 0 ≤ sizeLine; decide), fun dl ndl => ?_⟩
        have zdl := St.old ndl
        have dl0 := Ft.free ndl zdl.1 zdl.2.1
        have sdl := sadd (o := .lst []) (Same.refl Ht) ndl
        have hdl : upd Ht dl (.lst []) dl = some (.lst []) := upd_same
        have Sa := St.same sdl
        have Fa := Ft.trans (Fr.of sdl)
        have afo := sdl _ _ tfo
        have ako := sdl _ _ tko
        have aia := sdl _ _ tia
        have aF := tF.same sdl
        have aK := tK.same sdl
        have adi := tdi.same sdl
        generalize upd Ht dl (.lst []) = Ha at sdl hdl Sa Fa afo ako aia aF aK adi ⊢
        refine ⟨(by show 2 ≤ sizeLine; decide), fun dL ndL => ?_⟩
        have zdL := Sa.old ndL
        have ndd : dL ≠ dl := fun e => by rw [e, hdl] at ndL; cases ndL
        have sdL := sadd (o := .lst [.str "d1", .str "d2"]) (Same.refl Ha) ndL
        have hdL : upd Ha dL (.lst [.str "d1", .str "d2"]) dL = some (.lst [.str "d1", .str "d2"]) := upd_same
        have Sb := Sa.same sdL
        have Fb := Fa.trans (Fr.of sdL)
        have bdl := sdL _ _ hdl
        have bfo := sdL _ _ afo
        have bko := sdL _ _ ako
        have bia := sdL _ _ aia
        have bF := aF.same sdL
        have bK := aK.same sdL
        have bdi := adi.same sdL
        generalize upd Ha dL (.lst [.str "d1", .str "d2"]) = Hb at sdL hdL Sb Fb bdl bfo bko bia bF bK bdi ⊢
        refine ⟨dL, rfl, ⟨_, SqL.of hdL⟩, ?_⟩
        refine for_list (xs := [.str "d1", .str "d2"]) (fun j σ H' => ∃ (o1 o2 o7 o8 o9 : Option V) (bs : List (List PyData)) (xD : List V), σ = [some (.ref st), o1, o2, some (.ref ia), some (.ref na), some (.ref fo), some (.ref ko), o7, o8, o9, some (.ref dl), none] ∧
            H' dL = some (.lst [.str "d1", .str "d2"]) ∧ H' dl = some (.lst xD) ∧ DAs NoZ H' xD (([("d1" : Str), "d2"].zip bs).map fun q => doD q.1 q.2) ∧ bs.length = j ∧ (∀ b ∈ bs, BdR kn ims b) ∧ H' fo = some (.lst xF) ∧ DAs NoZ H' xF fs ∧ H' ko = some (.lst xK) ∧ DAs NoZ H' xK (kn.map fnD) ∧ H' ia = some (.lst is) ∧ DAs NoZ H' is (ims.map imD) ∧
            SA H' st g c (n + 1000 + j * 150) ∧ Fr st g H H')
          ⟨_, _, _, _, _, [], [], rfl, hdL, bdl, .nil, rfl, fun b m => absurd m List.not_mem_nil, bfo, bF, bko, bK, bia, bdi, Sb.mono (by omega), Fb⟩
          (fun j σ H' _ ⟨_, _, _, _, _, _, _, _, h, _⟩ => SqL.of h) ?turnD ?doneD
        case turnD =>
          rintro j x σ Hc hx ⟨o1, o2, o7, o8, o9, bs, xD, rfl, cdL, cdl, cD, cbs, cbd, cfo, cF, cko, cK, cia, cdi, Sc, Fc⟩
          obtain ⟨z, rfl, j1, zl, ez⟩ : ∃ z : Str, x = .str z ∧ j ≤ 1 ∧ z.length ≤ 1000 ∧ ∀ b : List PyData, ([("d1" : Str), "d2"].zip (bs ++ [b])).map (fun q => doD q.1 q.2) = ([("d1" : Str), "d2"].zip bs).map (fun q => doD q.1 q.2) ++ [doD z b] := by
            match j, hx, bs, cbs with
            | 0, h, [], _ => cases h; exact ⟨"d1", rfl, by decide, by decide, fun b => rfl⟩
            | 1, h, [b0], _ => cases h; exact ⟨"d2", rfl, by decide, by decide, fun b => rfl⟩
            | n + 2, h, _, _ => cases h
          refine ⟨_, rfl, ko, rfl, ⟨_, SqL.of cko⟩, fun LL nLL => ?_⟩
          have zLL := Sc.old nLL
          have LL0 := Fc.free nLL zLL.1 zLL.2.1
          have lK : xK.length = kn.length := by rw [cK.len, List.length_map]
          have lkn : kn.length ≤ 6 := by
            have e := congrArg List.length tfn.names.1
            rw [List.length_map, List.length_map] at e
            omega
          refine lc_it (walk_list (xs := xK)) (fun i H' => ∃ (ys : List V) (sub : List (Str × Nat)), H' LL = some (.lst ys) ∧ DAs NoZ H' ys (sub.map fnD) ∧ (∀ f ∈ sub, f ∈ kn) ∧ sub.length ≤ i ∧ SA H' st g c (n + 1000 + j * 150 + i) ∧ Fr st g Hc H')
            ⟨[], [], upd_same, .nil, fun f m => absurd m List.not_mem_nil, Nat.le_refl _, Sc.put zLL, (Fr.refl st g Hc).out nLL⟩ (fun i H' _ ⟨_, _, _, _, _, _, _, h⟩ => SqL.of (h ko _ cko zko.1 zko.2.1)) ?tl2 ?dl2
          case tl2 =>
            rintro i x3 Hd He hi ⟨ys, sub, hLL, hys, hsub, hls, Sd, Fd⟩ ⟨rfl, hx3⟩
            obtain ⟨d, hd3, hda⟩ := cK.get hx3
            rw [List.getElem?_map] at hd3
            obtain ⟨f3, hf3, rfl⟩ := Option.map_eq_some_iff.mp hd3
            have mf3 := List.mem_of_getElem? hf3
            have ik : i < xK.length := hi
            have jb : j * 150 ≤ 1 * 150 := Nat.mul_le_mul_right _ j1
            refine ⟨rfl, _, rfl, st, g, c, _, 3, rfl, Sd, by omega, by decide, by decide, fun m4 Hf m40 m41 Sf Ff => ⟨rfl, _, rfl, ?_⟩⟩
            have Fcf := Fd.trans Ff
            have hLLf := Ff LL _ hLL zLL.1 zLL.2.1
            have hysf := hys.mono (fr_tup Sd Ff)
            by_cases q : m4 = 0
            · try dsimp only []
              rw [if_pos (by rw [q]; rfl)]
              have kt : ∀ (o : List V) r xs, Hf r = some (.tup xs) → upd Hf LL (.lst o) r = some (.tup xs) := fun o r xs e => (upd_ne (ne_of e hLLf (fun y => nomatch y))).trans e
              have lys : ys.length = sub.length := by rw [hys.len, List.length_map]
              refine ⟨_, rfl, ys, hLLf, by omega, ys ++ [x3], sub ++ [f3], upd_same, ?_, fun f m => ?_, by rw [List.length_append]; exact Nat.add_le_add_right hls 1, Sf.put zLL, Fcf.out nLL⟩
              · rw [List.map_append]
                exact (hysf.mono (kt _)).app (.cons ((hda.mono (fr_tup Sc Fcf)).mono (kt _)) .nil)
              · rcases List.mem_append.mp m with m | m
                · exact hsub f m
                · rw [List.mem_singleton.mp m]; exact mf3
            · try dsimp only []
              rw [if_neg (by intro e; exact q (by have := of_decide_eq_true e; injection this))]
              exact ⟨ys, sub, hLLf, hysf, hsub, by omega, Sf, Fcf⟩
          case dl2 =>
            rintro Hd ⟨ys, sub, hLL, hys, hsub, hls, Sd, Fd⟩
            rw [lK] at hls Sd
            have jb : j * 150 ≤ 1 * 150 := Nat.mul_le_mul_right _ j1
            have ddl := Fd dl _ cdl zdl.1 zdl.2.1
            have dia := Fd ia _ cia zia.1 zia.2.1
            have ddi := cdi.mono (fr_tup Sc Fd)
            have e2 : cutV is none (some 2) = is.take 2 := cutV_to is 2
            refine ⟨_, rfl, .inl ⟨rfl, _, SqL.of ddl⟩, _, rfl, _, rfl, _, rfl, _, rfl, 2, rfl, ia, is, rfl, SqL.of dia, fun p np => ?_⟩
            rw [e2]
            have zp := Sd.old np
            have sp := sadd (o := .lst (is.take 2)) (Same.refl Hd) np
            have hp : upd Hd p (.lst (is.take 2)) p = some (.lst (is.take 2)) := upd_same
            have Se := Sd.same sp
            have Fe : Fr st g Hd (upd Hd p (.lst (is.take 2))) := Fr.of sp
            generalize upd Hd p (.lst (is.take 2)) = He at sp hp Se Fe ⊢
            have okN : ∀ z ∈ allN, PyData.strOk z = true := by decide +kernel
            have okP : ∀ q ∈ allP, PyData.strOk q.1 = true ∧ PyData.strOk q.2 = true := by decide +kernel
            have M : MxA He g LL p sub (ims.take 2) := ⟨⟨ys, sp _ _ hLL, hys.same sp⟩, zLL.2.1, ⟨_, hp, by rw [List.map_take]; exact (ddi.take 2).same sp⟩, zp.2.1, by omega, by rw [List.length_take]; omega, fun f m => ⟨(tfn.names.2.2.1 f (hsub f m)).2, okN _ (tfn.names.2.2.1 f (hsub f m)).1⟩, fun q m => okP q (ip q (List.mem_of_mem_take m))⟩
            refine ⟨st, g, c, LL, p, _, sub, ims.take 2, rfl, Se, by omega, M, fun b xb db Hj hb hdb lb hms Sj Fj => ⟨(by show 4 ≤ sizeLine; decide), fun fq nfq => ?_⟩⟩
            have Fcj := (Fd.trans Fe).trans Fj
            have F0j := Fc.trans Fcj
            have zfq := Sj.old nfq
            have fq0 := F0j.free nfq zfq.1 zfq.2.1
            have sfq := sadd (o := .tup [.str z, .str "p", .int 7, .ref b]) (Same.refl Hj) nfq
            have hfq : upd Hj fq (.tup [.str z, .str "p", .int 7, .ref b]) fq = some (.tup [.str z, .str "p", .int 7, .ref b]) := upd_same
            have Sk := Sj.put (o := .tup [.str z, .str "p", .int 7, .ref b]) zfq
            have F0k := F0j.out (o := .tup [.str z, .str "p", .int 7, .ref b]) fq0
            have jdl := sfq _ _ (Fcj dl _ cdl zdl.1 zdl.2.1)
            have jdL := sfq _ _ (Fcj dL _ cdL zdL.1 zdL.2.1)
            have jfo := sfq _ _ (Fcj fo _ cfo zfo.1 zfo.2.1)
            have jko := sfq _ _ (Fcj ko _ cko zko.1 zko.2.1)
            have jia := sfq _ _ (Fcj ia _ cia zia.1 zia.2.1)
            have jD := (cD.mono (fr_tup Sc Fcj)).same sfq
            have jF := (cF.mono (fr_tup Sc Fcj)).same sfq
            have jK := (cK.mono (fr_tup Sc Fcj)).same sfq
            have jdi := (cdi.mono (fr_tup Sc Fcj)).same sfq
            have dfq : DA NoZ (upd Hj fq (.tup [.str z, .str "p", .int 7, .ref b])) (.ref fq) (doD z db) := DA.tup hfq (.cons (.str z zl) (.cons (.str _ (by decide)) (.cons (.int 7) (.cons (DA.tup (sfq _ _ hb) (hdb.same sfq)) .nil))))
            generalize upd Hj fq (.tup [.str z, .str "p", .int 7, .ref b]) = Hk at Sk F0k jdl jdL jfo jko jia jD jF jK jdi dfq ⊢
            have lxD : xD.length ≤ 2 := by
              rw [cD.len, List.length_map, List.length_zip]
              exact Nat.min_le_left _ _
            have kt : ∀ r xs, Hk r = some (.tup xs) → upd Hk dl (.lst (xD ++ [.ref fq])) r = some (.tup xs) := fun r xs e => (upd_ne (ne_of e jdl (fun y => nomatch y))).trans e
            have nf : fo ≠ dl := ne_of_none tfo ndl
            have nk : ko ≠ dl := ne_of_none tko ndl
            have ni : ia ≠ dl := ne_of_none tia ndl
            refine ⟨dl, xD, .ref fq, rfl, rfl, jdl, by omega, _, _, _, _, _, bs ++ [db], xD ++ [.ref fq], rfl, (upd_ne ndd).trans jdL, upd_same, ?_, by rw [List.length_append, cbs]; rfl, fun b m => ?_, (upd_ne nf).trans jfo, jF.mono kt, (upd_ne nk).trans jko, jK.mono kt, (upd_ne ni).trans jia, jdi.mono kt, (Sk.put zdl).mono (by omega), F0k.out dl0⟩
            · rw [ez]
              exact (jD.mono kt).app (.cons (dfq.mono kt) .nil)
            · rcases List.mem_append.mp m with m | m
              · exact cbd b m
              · rw [List.mem_singleton.mp m]
                exact ⟨⟨sub, ims.take 2, hsub, fun q m => List.mem_of_mem_take m, hms⟩, lb⟩
        case doneD =>
          rintro σ Hc ⟨o1, o2, o7, o8, o9, bs, xD, rfl, cdL, cdl, cD, cbs, cbd, cfo, cF, cko, cK, cia, cdi, Sc, Fc⟩
          obtain ⟨b1, b2, rfl⟩ : ∃ b1 b2, bs = [b1, b2] := by
            match bs, cbs with
            | [b1, b2], _ => exact ⟨b1, b2, rfl⟩
          have cD : DAs NoZ Hc xD [doD "d1" b1, doD "d2" b2] := cD
          have dr : DrR ims kn fs [doD "d1" b1, doD "d2" b2] := ⟨ip, iu, tfn, by omega, b1, b2, rfl, cbd b1 List.mem_cons_self, cbd b2 (List.mem_cons_of_mem _ List.mem_cons_self)⟩
          refine ⟨_, rfl, ia, _, rfl, .inl ⟨SqL.of cia, fun t1 nt1 => ?_⟩⟩
          have s1' := sadd (o := .tup is) (Same.refl Hc) nt1
          have ht1 : upd Hc t1 (.tup is) t1 = some (.tup is) := upd_same
          generalize upd Hc t1 (.tup is) = E1 at s1' ht1 ⊢
          refine ⟨(by show 1 ≤ sizeLine; decide), fun u1 nu1 => ?_⟩
          have s2' := sadd (o := .tup [.int 1]) (Same.refl E1) nu1
          have hu1 : upd E1 u1 (.tup [.int 1]) u1 = some (.tup [.int 1]) := upd_same
          generalize upd E1 u1 (.tup [.int 1]) = E2 at s2' hu1 ⊢
          refine ⟨(by show 2 ≤ sizeLine; decide), fun u2 nu2 => ?_⟩
          have s3' := sadd (o := .tup [.str "b", .ref u1]) (Same.refl E2) nu2
          have hu2 : upd E2 u2 (.tup [.str "b", .ref u1]) u2 = some (.tup [.str "b", .ref u1]) := upd_same
          generalize upd E2 u2 (.tup [.str "b", .ref u1]) = E3 at s3' hu2 ⊢
          refine ⟨(by show 1 ≤ sizeLine; decide), fun u3 nu3 => ?_⟩
          have s4' := sadd (o := .tup [.ref u2]) (Same.refl E3) nu3
          have hu3 : upd E3 u3 (.tup [.ref u2]) u3 = some (.tup [.ref u2]) := upd_same
          generalize upd E3 u3 (.tup [.ref u2]) = E4 at s4' hu3 ⊢
          have s04 := ((s1'.trans s2').trans s3').trans s4'
          refine ⟨_, rfl, fo, _, rfl, .inl ⟨SqL.of (s04 _ _ cfo), fun t2 nt2 => ?_⟩⟩
          have s5' := sadd (o := .tup xF) (Same.refl E4) nt2
          have ht2 : upd E4 t2 (.tup xF) t2 = some (.tup xF) := upd_same
          generalize upd E4 t2 (.tup xF) = E5 at s5' ht2 ⊢
          have s05 := s04.trans s5'
          refine ⟨_, rfl, dl, _, rfl, .inl ⟨SqL.of (s05 _ _ cdl), fun t3 nt3 => ?_⟩⟩
          have s6' := sadd (o := .tup xD) (Same.refl E5) nt3
          have ht3 : upd E5 t3 (.tup xD) t3 = some (.tup xD) := upd_same
          generalize upd E5 t3 (.tup xD) = E6 at s6' ht3 ⊢
          have s06 := s05.trans s6'
          refine ⟨(by show 5 ≤ sizeLine; decide), fun rv nrv => ?_⟩
          have s7' := sadd (o := .tup [.str "here", .ref t1, .ref u3, .ref t2, .ref t3]) (Same.refl E6) nrv
          have hrv : upd E6 rv (.tup [.str "here", .ref t1, .ref u3, .ref t2, .ref t3]) rv = some (.tup [.str "here", .ref t1, .ref u3, .ref t2, .ref t3]) := upd_same
          generalize upd E6 rv (.tup [.str "here", .ref t1, .ref u3, .ref t2, .ref t3]) = E7 at s7' hrv ⊢
          have s07 := s06.trans s7'
          have s57 := (s5'.trans s6').trans s7'
          have s67' := s6'.trans s7'
          have s47 := s57
          have s37 := s4'.trans s57
          have s27 := s3'.trans s37
          have s17 := s2'.trans s27
          have da : DA NoZ E7 (.ref rv) (rmD ims fs [doD "d1" b1, doD "d2" b2]) :=
            DA.tup hrv (.cons (.str _ (by decide)) (.cons (DA.tup (s17 _ _ ht1) (cdi.same s07)) (.cons (DA.tup (s47 _ _ hu3) (.cons (DA.tup (s37 _ _ hu2) (.cons (.str _ (by decide)) (.cons (DA.tup (s27 _ _ hu1) (.cons (.int 1) .nil)) .nil))) .nil)) (.cons (DA.tup (s67' _ _ ht2) (cF.same s07)) (.cons (DA.tup (s7' _ _ ht3) (cD.same s07)) .nil)))))
          exact kk _ ims kn fs [doD "d1" b1, doD "d2" b2] E7 dr da ((Sc.same s07).mono (by show n + 1000 + 2 * 150 ≤ n + 2000; omega)) (Fc.trans (Fr.of s07))
end
end OH
end
section
set_option Elab.async false
set_option linter.all false
set_option maxRecDepth 100000
set_option maxHeartbeats 4000000
/-! What drawn rooms ask; sorted strings; what is shown. -/
namespace OH
open PySem PySem.Spec PyProof.Rows L2
open LamX (Tabs TabS ExtN TabB CodeO)
/-- all that a node and those within it ask is among these -/
def InA (ims : List (Str × Str)) (x : PyData) : Prop := ∀ (d : Nat) (q : Str × Str), q ∈ (nodesIn d [x]).filterMap isAsk → q ∈ ims
section
variable {ims : List (Str × Str)}
theorem ina_all {xs : List PyData} (h : ∀ x ∈ xs, InA ims x) (d : Nat) (q : Str × Str) (m : q ∈ (nodesIn d xs).filterMap isAsk) : q ∈ ims := by
  induction xs with
  | nil =>
    rw [nodesIn_nil] at m
    exact absurd m List.not_mem_nil
  | cons x xs ih =>
    rw [nodesIn_cons, List.filterMap_append] at m
    rcases List.mem_append.mp m with m | m
    · exact h x List.mem_cons_self d q m
    · exact ih (fun y hy => h y (List.mem_cons_of_mem _ hy)) m
theorem ina_node {x : PyData} {ks : List PyData} (e : kids x = ks) (n : ∀ q, isAsk x = some q → q ∈ ims) (h : ∀ k ∈ ks, InA ims k) : InA ims x := by
  intro d q m
  cases d with
  | zero => exact absurd m List.not_mem_nil
  | succ d =>
    rw [nodesIn_one, e, List.filterMap_cons] at m
    cases hx : isAsk x with
    | none => rw [hx] at m; exact ina_all h d q m
    | some p =>
      rw [hx] at m
      rcases List.mem_cons.mp m with rfl | m
      · exact n _ hx
      · exact ina_all h d q m
theorem ina_no {w : Str} {r ks : List PyData} (e : kids (.tuple (.str w :: r)) = ks) (n : w ≠ "ask") (h : ∀ k ∈ ks, InA ims k) : InA ims (.tuple (.str w :: r)) :=
  ina_node e (fun q z => by rw [isAsk_not n] at z; cases z) h
theorem all_nil : ∀ k ∈ ([] : List PyData), InA ims k := fun k m => absurd m List.not_mem_nil
theorem all_cons {x : PyData} {xs : List PyData} (h : InA ims x) (g : ∀ k ∈ xs, InA ims k) : ∀ k ∈ x :: xs, InA ims k := fun k m => (List.mem_cons.mp m).elim (fun e => by rw [e]; exact h) (g k)
theorem ina_num (i : Int) : InA ims (numD i) := ina_no rfl (by decide) all_nil
theorem mv_asks {fns : List (Str × Nat)} {k : Nat} {x : PyData} (h : MV fns ims k x) : InA ims x := by
  induction h with
  | num k z h0 h1 => exact ina_num z
  | run k f es hf hl he ih => exact ina_no (ks := es) rfl (by decide) ih
  | ask k q e hq he ih =>
    refine ina_node (ks := [e]) rfl (fun p z => ?_) (all_cons ih all_nil)
    rw [isAsk_ask] at z
    cases z
    exact hq
  | plus k a b ha hb iha ihb => exact ina_no (ks := [a, b]) rfl (by decide) (all_cons iha (all_cons ihb all_nil))
theorem ms_asks {fns : List (Str × Nat)} {x : PyData} (h : MS fns ims x) : InA ims x := by
  obtain ⟨v, mv, mx⟩ := h
  have hv := mv_asks mv
  have n0 := ina_num (ims := ims) 0
  have n1 := ina_num (ims := ims) 1
  have gv : InA ims (.tuple [.str "give", v]) := ina_no (ks := [v]) rfl (by decide) (all_cons hv all_nil)
  have lv : InA ims (.tuple [.str "let", .str "x", v]) := ina_no (ks := [v]) rfl (by decide) (all_cons hv all_nil)
  have st : InA ims (.tuple [.str "stop"]) := ina_no (ks := []) rfl (by decide) all_nil
  rcases List.mem_append.mp mx with mx | mx
  · rcases List.mem_append.mp mx with mx | mx
    · rcases List.mem_append.mp mx with mx | mx
      · simp only [s1D, List.mem_cons, List.not_mem_nil, or_false] at mx
        rcases mx with rfl | rfl | rfl
        · exact lv
        · exact ina_no (ks := [v, numD 0]) rfl (by decide) (all_cons hv (all_cons n0 all_nil))
        · exact ina_no (ks := [numD 0, v]) rfl (by decide) (all_cons n0 (all_cons hv all_nil))
      · simp only [s2D, List.mem_cons, List.not_mem_nil, or_false] at mx
        rcases mx with rfl | rfl | rfl
        · exact ina_no (ks := [v]) rfl (by decide) (all_cons hv all_nil)
        · exact ina_no (ks := [numD 0, .tuple [.str "give", v]]) rfl (by decide) (all_cons n0 (all_cons gv all_nil))
        · exact ina_no (ks := [v]) rfl (by decide) (all_cons hv all_nil)
    · simp only [s3D, List.mem_cons, List.not_mem_nil, or_false] at mx
      rcases mx with rfl | rfl
      · exact ina_no (ks := [numD 1, .tuple [.str "let", .str "x", v]]) rfl (by decide) (all_cons n1 (all_cons lv all_nil))
      · exact gv
  · simp only [s4D, List.mem_cons, List.not_mem_nil, or_false] at mx
    subst mx
    exact ina_no (ks := [numD 0, .tuple [.str "stop"], .tuple [.str "give", v]]) rfl (by decide) (all_cons n0 (all_cons st (all_cons gv all_nil)))
end
theorem bdr_asks {kn : List (Str × Nat)} {ims : List (Str × Str)} {p : PyData} {body : List PyData} (e : bodyD p = body) (h : BdR kn ims body) : ∀ q ∈ asksP p, q ∈ ims := fun q m => by
  obtain ⟨fns, ims', _, h2, h3⟩ := h.ex
  have m' : q ∈ (nodesIn 12 (bodyD p)).filterMap isAsk := m
  rw [e] at m'
  exact h2 q (ina_all (fun x hx => ms_asks (h3 x hx)) 12 q m')
theorem DrR.asks {ims : List (Str × Str)} {kn : List (Str × Nat)} {fs ds : List PyData} (h : DrR ims kn fs ds) : ∀ p ∈ fs ++ ds, ∀ q ∈ asksP p, q ∈ ims := fun p m => by
  rcases List.mem_append.mp m with m | m
  · obtain ⟨body, e, q, r⟩ := h.fn.body p m
    exact bdr_asks e q
  · obtain ⟨b1, b2, rfl, q1, q2⟩ := h.dr
    rcases List.mem_cons.mp m with rfl | m
    · exact bdr_asks rfl q1
    · rw [List.mem_singleton.mp m]
      exact bdr_asks rfl q2
theorem DrR.askBy {ims : List (Str × Str)} {kn : List (Str × Nat)} {fs ds : List PyData} (h : DrR ims kn fs ds) {p : PyData} (hp : p ∈ fs ++ ds) {q : Str × Str} (a : AskBy (fs ++ ds) p q) : q ∈ allP := by
  rcases a with a | ⟨z, g, _, e, a⟩
  · exact h.ip q (h.asks p hp q a)
  · exact h.ip q (h.asks g (partOf_in e) q a)
def allM : List Str := allN ++ ([("d1" : Str), "d2"])
theorem DrR.nm {ims : List (Str × Str)} {kn : List (Str × Nat)} {fs ds : List PyData} (h : DrR ims kn fs ds) : ∀ p ∈ fs ++ ds, nameB p ∈ allM := fun p m => by
  rcases List.mem_append.mp m with m | m
  · obtain ⟨body, e, q, r⟩ := h.fn.body p m
    exact List.mem_append_left _ r
  · obtain ⟨b1, b2, rfl, q1, q2⟩ := h.dr
    rcases List.mem_cons.mp m with rfl | m
    · exact List.mem_append_right _ List.mem_cons_self
    · rw [List.mem_singleton.mp m]
      exact List.mem_append_right _ (List.mem_cons_of_mem _ List.mem_cons_self)
/-! ### sorted strings -/
theorem rising_le : ∀ {l : List Str} {p : Str}, risingS p l = true → ∀ x ∈ l, ltC x p = false
  | [], _, _, x, m => absurd m List.not_mem_nil
  | y :: l, p, h, x, m => by
    have h' : (!ltCps y.cps.toList p.cps.toList && risingS y l) = true := h
    rw [Bool.and_eq_true] at h'
    have h1 : ltC y p = false := by
      have := h'.1
      rw [ltCps_eq] at this
      simpa using this
    rcases List.mem_cons.mp m with rfl | m
    · exact h1
    · have h2 := rising_le h'.2 x m
      cases e : ltC x p with
      | false => rfl
      | true =>
        cases e2 : ltC p y with
        | true => exact absurd (ltC_tr e e2) (by rw [h2]; decide)
        | false =>
          have := ltC_tot h1 e2
          rw [this] at h2
          rw [h2] at e
          cases e
theorem sorted_tail {y : Str} {l : List Str} (h : sortedS (y :: l) = true) : sortedS l = true := by
  cases l with
  | nil => rfl
  | cons z l =>
    have h' : (!ltCps z.cps.toList y.cps.toList && risingS z l) = true := h
    rw [Bool.and_eq_true] at h'
    exact h'.2
def prD (q : Str × Str) : PyData := .tuple [.str q.1, .str q.2]
/-- sorted strings are told by what they are -/
theorem strs_uniq {xs ys : List Str} (hx : sortedS xs = true) (hy : sortedS ys = true) (p : xs.Perm ys) : xs = ys := by
  induction xs generalizing ys with
  | nil => exact (List.Perm.nil_eq p)
  | cons x xs ih =>
    cases ys with
    | nil => exact absurd p.length_eq (by simp)
    | cons y ys =>
      have e : x = y := by
        have h1 : ltC x y = false := by
          rcases List.mem_cons.mp (p.mem_iff.mp List.mem_cons_self) with e | m
          · rw [e]; exact ltC_irr y
          · exact rising_le (show risingS y ys = true from hy) x m
        have h2 : ltC y x = false := by
          rcases List.mem_cons.mp (p.mem_iff.mpr List.mem_cons_self) with e | m
          · rw [e]; exact ltC_irr x
          · exact rising_le (show risingS x xs = true from hx) y m
        exact ltC_tot h1 h2
      subst e
      rw [ih (sorted_tail hx) (sorted_tail hy) p.cons_inv]
/-- lists without doubles with the same members -/
theorem perm_mem {α : Type} [DecidableEq α] {xs ys : List α} (hx : xs.Nodup) (hy : ys.Nodup) (h : ∀ z, z ∈ xs ↔ z ∈ ys) : xs.Perm ys := (List.perm_ext_iff_of_nodup hx hy).mpr h
theorem PsAt.dpp {K : PySem.W.Frag} {H : Hp} {bs : List Addr} {qs : List (Str × Str)} (h : PsAt H bs qs) : DpAll K H (bs.map V.ref) (qs.map prD) := by
  unfold PsAt at h
  induction h with
  | nil => exact .nil
  | cons a _ ih => exact .cons (.tup (SqT.of a) (.cons (.str _) (.cons (.str _) .nil))) ih
/-! ### shown -/
structure Plain (n k : Nat) (d : PyData) : Prop where
  sh : d.showable = true
  nd : d.hasDict = false
  dp : d.depth ≤ k
  ln : d.shown.length ≤ n
theorem Plain.mono {n m k j : Nat} {d : PyData} (h : Plain n k d) (a : n ≤ m) (b : k ≤ j) : Plain m j d := ⟨h.sh, h.nd, Nat.le_trans h.dp b, Nat.le_trans h.ln a⟩
theorem join_len (n : Nat) : ∀ xs : List Str, (∀ x ∈ xs, x.length ≤ n) → ((Str.ofString ", ").join xs).length ≤ xs.length * (n + 2)
  | [], _ => by
    show (0 : Nat) ≤ _
    omega
  | [x], h => by
    have := h x List.mem_cons_self
    show x.length ≤ 1 * (n + 2)
    omega
  | x :: y :: r, h => by
    have h1 := h x List.mem_cons_self
    have ih := join_len n (y :: r) fun z hz => h z (List.mem_cons_of_mem _ hz)
    have e : (Str.ofString ", ").join (x :: y :: r) = x ++ Str.ofString ", " ++ (Str.ofString ", ").join (y :: r) := rfl
    rw [e, Str.length_append, Str.length_append]
    have e2 : (Str.ofString ", ").length = 2 := by decide +kernel
    rw [e2]
    show x.length + 2 + _ ≤ (r.length + 1 + 1) * (n + 2)
    have e3 : (y :: r).length = r.length + 1 := rfl
    rw [e3] at ih
    rw [Nat.succ_mul]
    omega
theorem shownAll_map : ∀ ds : List PyData, PyData.shownAll ds = ds.map PyData.shown
  | [] => rfl
  | d :: ds => by
    show d.shown :: PyData.shownAll ds = _
    rw [shownAll_map ds]
    rfl
theorem all_plain {n k : Nat} : ∀ {ds : List PyData}, (∀ d ∈ ds, Plain n k d) → PyData.showableAll ds = true ∧ PyData.hasDictAll ds = false ∧ PyData.depthAll ds ≤ k
  | [], _ => ⟨rfl, rfl, Nat.zero_le _⟩
  | d :: ds, h => by
    obtain ⟨a, b, c⟩ := all_plain fun e he => h e (List.mem_cons_of_mem _ he)
    have q := h d List.mem_cons_self
    refine ⟨?_, ?_, ?_⟩
    · show (d.showable && PyData.showableAll ds) = true
      rw [q.sh, a]
      rfl
    · show (d.hasDict || PyData.hasDictAll ds) = false
      rw [q.nd, b]
      rfl
    · show max d.depth (PyData.depthAll ds) ≤ k
      exact Nat.max_le.mpr ⟨q.dp, c⟩
theorem Plain.tup {n k m : Nat} {ds : List PyData} (h : ∀ d ∈ ds, Plain n k d) (hm : ds.length ≤ m) : Plain (3 + m * (n + 2)) (k + 1) (.tuple ds) := by
  obtain ⟨a, b, c⟩ := all_plain h
  refine ⟨a, b, ?_, ?_⟩
  · show PyData.depthAll ds + 1 ≤ k + 1
    omega
  · show (tupleText (PyData.shownAll ds)).length ≤ _
    unfold tupleText
    rw [shownAll_map, Str.length_append, Str.length_append]
    have j := join_len n (ds.map PyData.shown) fun x hx => by
      obtain ⟨d, hd, rfl⟩ := List.mem_map.mp hx
      exact (h d hd).ln
    rw [List.length_map] at j
    have e1 : (Str.ofString "(").length = 1 := by decide +kernel
    have e2 : (Str.ofString (if ((ds.map PyData.shown).length == 1) = true then ",)" else ")")).length ≤ 2 := by
      split <;> decide +kernel
    have e3 : ds.length * (n + 2) ≤ m * (n + 2) := Nat.mul_le_mul_right _ hm
    omega
theorem plain_nm : ∀ z ∈ allM, Plain 20 0 (.str z) := fun z m => by
  have q : ∀ z ∈ allM, (reprText z).length ≤ 20 := by decide +kernel
  exact ⟨rfl, rfl, Nat.le_refl 0, q z m⟩
theorem plain_pr : ∀ q ∈ allP, Plain 60 1 (prD q) := fun q m => by
  have q20 : ∀ q ∈ allP, (reprText q.1).length ≤ 20 ∧ (reprText q.2).length ≤ 20 := by decide +kernel
  obtain ⟨h1, h2⟩ := q20 q m
  refine (Plain.tup (n := 20) (k := 0) (m := 2) (ds := [.str q.1, .str q.2]) (fun d hd => ?_) (Nat.le_refl 2)).mono (by decide) (by decide)
  simp only [List.mem_cons, List.not_mem_nil, or_false] at hd
  rcases hd with rfl | rfl
  · exact ⟨rfl, rfl, Nat.le_refl 0, h1⟩
  · exact ⟨rfl, rfl, Nat.le_refl 0, h2⟩
section
variable {X : Cx}
theorem call_reprV {k : Nat} (hr : Room k X.A) (gd : X.A.guards = some []) : CallR X (.builtin "repr") (fun xs H Q => ∃ (v : V) (d : PyData), xs = [v] ∧ Dp X.K H v d ∧ Plain 4000000 20 d ∧ Q (.str d.shown) H) := by
  rintro pins s σ H xs us Q I r ⟨v, d, rfl, hd, hp, q⟩
  rcases r with _ | ⟨rx, rr⟩
  cases rr
  have hu := hr.units
  have dk := hp.dp
  have ref : ∀ (a : Addr) (d : PyData), Dp X.K H (.ref a) d → Plain 4000000 20 d → Q (.str d.shown) H → wpAny (model X.prog X.w) X.A (call (.builtin "repr") [.ref a]) (EP X pins σ Q) X.xe s := fun a d hd hp q => by
    have dk := hp.dp
    obtain ⟨as, rd⟩ := Dp.reads I d _ _ hd (show RelV (.ref a) (.ref a) from rfl)
    refine repr_of_reads' rd hp.sh (fun z => ?_) gd (by omega) (fun _ _ e => e) (fun h' u tk hk => ?_) (Nat.le_trans hp.ln (by decide))
    · exact absurd (z.symm.trans hp.nd) (by decide)
    · exact ⟨.str d.shown, H, I.kept (t' := tk) hk, ⟨u, rfl⟩, q⟩
  cases hd with
  | non =>
    cases rx
    exact P.repr_of_none ⟨.str _, H, I.tok _, ⟨_, rfl⟩, q⟩
  | bl b =>
    cases rx
    exact P.repr_of_bool ⟨.str _, H, I.tok _, ⟨_, rfl⟩, q⟩
  | int i =>
    obtain ⟨t, rfl⟩ := rx
    exact P.repr_of_int (of_decide_eq_true hp.sh) ⟨.str _, H, I.tok _, ⟨_, rfl⟩, q⟩
  | str x =>
    obtain ⟨t, rfl⟩ := rx
    exact P.repr_of_str ⟨.str _, H, I.tok _, ⟨_, rfl⟩, q⟩ (Nat.le_trans hp.ln (by decide))
  | lst h hs =>
    cases (show _ = Value.ref _ from rx)
    exact ref _ _ (.lst h hs) hp q
  | tup h hs =>
    cases (show _ = Value.ref _ from rx)
    exact ref _ _ (.tup h hs) hp q
end
end OH
end
section
set_option Elab.async false
set_option linter.all false
set_option maxRecDepth 100000
set_option maxHeartbeats 4000000
/-! A def called by keywords alone. -/
namespace OH
open PySem PySem.Spec PyProof.Rows L2
section
variable {X : Cx} {CX : CXT} {k : Nat} {f : Addr} {fd : FuncData} {ps ks : List Str} {sp : Sp} {E : XK} {x : Str} {p pos : Pos} {kws : List Keyword} {tk : TA}
  {g : List Value → List Value → List Value} {gV : List V → List V → List V}
theorem pe_callK0 (F : FnOk X.prog X.w X.K X.mg X.base CX k f fd ps sp) (hr : Room k X.A) (hg : Gl X x) (hm : X.mg x = some (.ref f)) (hk : PySem.W.keepIn X.K (.ref f) = true)
    (hb : KBinds X.K fd ps ks g gV) (hx : Passes CX X E) (hkw : PK X kws tk)
    (hall : ((backToKw pos (keywordEach kws X.env)).all fun x => x.fst.isSome) = true := by rfl)
    (hks : List.filterMap (fun x => x.fst) (backToKw pos (keywordEach kws X.env)) = ks := by rfl)
    (hdb : (x == ("__debug__" : Str)) = false := by decide)
    (hno : (((backTo pos (starEach [] X.env)).any fun x => x.fst) || (backToKw pos (keywordEach kws X.env)).any fun x => x.fst.isNone) = false := by rfl) :
    PE X (.Call (.Name x p) [] kws pos) (tCallK sp gV E tNil tk) := by
  constructor
  intro pins s σ H Q I h
  refine wpAny_Call_Name_kw (ld_glob I hg hm ?_ hdb)
  refine PySem.W.callWith_KW0 (h₀ := X.base) I.ok.mod.kin hk hall ?_ hno
  have h' : tk σ H fun zs H2 => sp (gV [] zs) H2 Q E := h
  refine thn (hkw.run pos pins s σ H _ I h') ?_
  rintro us s1 ⟨zs, H1, I1, r, q⟩
  refine ⟨I1.kIn, ?_⟩
  rw [hks]
  have rr := hb.rel (vs := []) (us := []) .nil r
  have n : (g [] us).length = ps.length := by
    rw [← rr.length]
    exact F.len _ _ _ _ q
  have b := hb.to s1 [] us I1.kIn n
  refine wpAny_call (codeAny_mono (F.run X.A X.stack s1 H1 ⟨[], ks.zip us⟩ (g [] us) (gV [] zs) Q E hr I1.env0 b rr q) fun res s2 done => ?_)
  rcases res with er | fl
  · exact hx pins σ H1 s1 er s2 I1 done
  · cases fl with
    | ret u => exact I1.after done
    | _ => exact False.elim done
end
end OH
end
section
set_option Elab.async false
set_option linter.all false
set_option maxRecDepth 100000
set_option maxHeartbeats 16000000
/-! The law. -/
namespace OH
open PySem PySem.Spec PyProof.Rows L2
open LamX (Tabs TabS ExtN TabB CodeO)
theorem sc__law_caught : FnScope ["action", "found", "error"] ["action"] (defScope s__law_caught) := ⟨rfl, rfl, rfl, by decide +kernel, rfl, by decide +kernel, by decide +kernel⟩
/-- what is called gives its error on, whatever fields it has -/
theorem caught_givesJ {X : Cx} {q : Str} {g CS : Addr} {cdg : Value} (hme : X.mg "OwnharmError" = some (.ref CS)) :
    LamX.GivesTo X ["action", "found", "error"] "_law_caught" (defScope s__law_caught) g cdg (defBody s__law_caught) "action" q (TTj X.K CS) := by
  intro f c' s H Q tl act hc h
  have nd := sc__law_caught.nd
  refine ⟨_, pss_cons (ps_set (i := 1) nd rfl (Or.inl rfl) pe_non)
    (pss_cons (ps_try_keepJ (X := (cxOf C8.CX0 X.prog X.w X.K X.mg X.base ["action", "found", "error"] "_law_caught" (defScope s__law_caught) g cdg X.A X.stack s H C8.E0).nox) (i := 2) (c := .ref CS)
      (tb := fun W D σ H => ∃ Ech : XK, (∀ cls d σ' H', σ'.length = 3 → Ech cls d H' → W cls d σ' H') ∧ σ[0]? = some (some (.ref f)) ∧ H c' = some (LamX.CodeO c' q) ∧ tl Ech H (fun _ H1 => D.nx σ H1))
      rfl rfl rfl nd rfl rfl ⟨rfl, by decide, .inl hme⟩ (fun W pn xe tk _ => ?_) (fun a oe cls d pn _ _ => pss_one (ps_set (i := 1) nd rfl (Or.inl rfl) (pv 2))))
    (pss_one (ps_ret (pv 1)))), ?_⟩
  · refine ⟨fun pins s' σ H' D I h' => ?_⟩
    obtain ⟨Ech, hW, h1, h2, h3⟩ := h'
    have tk' : Takes _ (fun cls d σ H => σ.length = 3 → W cls d σ H) := fun u s' ⟨a, B, sI, pins, σ, H, cls, d, e, I, nb, up, sky, na, os, ag, w⟩ =>
      tk u s' ⟨a, B, sI, pins, σ, H, cls, d, e, I, nb, up, sky, na, os, ag, w I.len⟩
    exact (pss_one (ps_expr (act _ pn xe Ech _ _ tk' (fun cls d σ' H' e n => hW cls d σ' H' n e)))).run pins s' σ H' D I ⟨h1, h2, h3⟩
  · refine ⟨_, fun cls d σ' H' n e => ?_, rfl, hc, h _ fun _ _ z => ⟨.non, rfl, z⟩⟩
    obtain ⟨e2, e3⟩ := e
    refine ⟨e2, fun a na => ?_⟩
    match σ', n with
    | [y0, y1, y2], _ => exact ⟨.ref a, rfl, .ref a, rfl, e3 a na⟩
/-- isinstance(e, c), e an error that is held, whatever it has -/
theorem call_isJA {X : Cx} {D : Addr} (C : ExcC X.K D) : CallR X (.builtin "isinstance") (fun xs H Q => ∃ (fs : Option (List (Str × V))) (a : Addr) (c : V) (cv : Value) (b : Bool),
    xs = [.ref a, c] ∧ Held H a D fs ∧ (∀ u, RelV c u → u = cv) ∧ PySem.W.kitOne X.K (.ref D) cv = some b ∧ Q (.bl b) H) :=
  fun pins s σ H xs us Q I r ⟨fs, h⟩ => call_isJ (fs := fs) C pins s σ H xs us Q I r h
theorem tabs_fr {T : List (Addr × Str)} {H H' : Hp} {st g c : Addr} {n : Nat} (t : Tabs T H) (S : SA H st g c n) (f : Fr st g H H') : Tabs T H' := fun p hp => by
  obtain ⟨ps, h1, h2, h3⟩ := t p hp
  obtain ⟨⟨r, tt, _, _, _, e1⟩, ⟨gs, e2, _⟩, _⟩ := S
  refine ⟨ps, f _ _ h1 (ne_of h1 e1 (fun z => nomatch z)) (ne_of h1 e2 (fun z => nomatch z)), h2, fun pos cv hc => ?_⟩
  obtain ⟨cc, q1, q2⟩ := h3 pos cv hc
  exact ⟨cc, q1, f _ _ q2 (ne_of q2 e1 (fun z => by unfold CodeO at z; cases z)) (ne_of q2 e2 (fun z => by unfold CodeO at z; cases z))⟩
theorem SA.ext {H H' : Hp} {st g c : Addr} {n : Nat} (s : SA H st g c n) (e : ExtN H H') : SA H' st g c n := by
  obtain ⟨⟨r, t, h1, h2, h3, h4⟩, ⟨gs, g1, g2, g3⟩, ⟨cs, c1, c2, c3⟩, gc⟩ := s
  exact ⟨⟨r, t, h1, h2, h3, e _ _ h4 (fun _ z => nomatch z)⟩, ⟨gs, e _ _ g1 (fun _ z => nomatch z), g2, g3⟩, ⟨cs, e _ _ c1 (fun _ z => nomatch z), c2, c3⟩, gc⟩
theorem extN_of {H H' : Hp} (s : Same H H') : ExtN H H' := ExtN.of fun q o e => s q o e
def RA2 (f1 f2 : Addr) (sp0 : Sp) : Addr → Sp → Prop := fun f sp => (f = f1 ∨ f = f2) ∧ sp = sp0
def tCallVS (i : Nat) (R : Addr → Sp → Prop) (E : L2.St → XK) (t : TA) : TE := fun σ H Q => ∃ f sp, σ[i]? = some (some (.ref f)) ∧ R f sp ∧ t σ H fun vs H1 => sp vs H1 Q (E σ)
section
variable {X : Cx} {CX : CXT} {k i : Nat} {E : L2.St → XK} {x : Str} {p pos : Pos} {e : Expr} {es : List Expr} {t : TA}
theorem pe_callVS {R : Addr → Sp → Prop} (B : ∀ f sp, R f sp → ∃ fd ps, FnOk X.prog X.w X.K X.mg X.base CX k f fd ps sp ∧ PySem.W.keepIn X.K (.ref f) = true ∧ Binds X.K fd ps []) (hr : Room k X.A) (hN : X.N[i]? = some x) (hv : Vis X.env.scope x) (hx : ∀ σ, PassesAt CX X σ (E σ)) (ha : PA X (e :: es) t)
    (hdb : (x == ("__debug__" : Str)) = false := by decide) (hcd : (x == ("__classdict__" : Str)) = false := by decide)
    (he : starEach (e :: es) X.env = (false, eval e X.env) :: starEach es X.env := by rfl) (hpl : (backTo pos (starEach es X.env)).any (·.1) = false := by rfl) : PE X (.Call (.Name x p) (e :: es) [] pos) (tCallVS i R E t) := by
  refine ⟨fun pins s σ H Q I h => ?_⟩
  obtain ⟨f, sp, hs, hR, ht⟩ := h
  obtain ⟨fd, ps, F, hk, hb⟩ := B f sp hR
  refine wpAny_Call_Name_kw (thn ((pe_var (pos := p) hN hv hdb hcd).run pins s σ H (fun v H1 => v = .ref f ∧ H1 = H) I ⟨.ref f, hs, rfl, rfl⟩) fun u s1 ⟨v, H1, I1, r1, q1⟩ => ?_)
  obtain ⟨rfl, rfl⟩ := q1
  cases r1
  refine PySem.W.callWith_K (h₀ := X.base) I.ok.mod.kin hk (thn (ha.run pos pins s1 σ _ _ I1 ht) fun us s2 ⟨vs, H2, I2, r, q⟩ => ⟨I2.kIn, ?_⟩) he hpl
  exact run_fnS F hr hb (hx σ) I2 r q
end
def kwT {α : Type} (us ws : List α) : List α := match us, ws with
  | [], [x, y] => [x, y]
  | _, _ => []
theorem kb2 {K : PySem.W.Frag} {fd : FuncData} {p q : Str} (h : ∀ (s : Shared) (x y : Value), K.In s.heap → BindsTo s fd ⟨[], [(p, x), (q, y)]⟩ [(p, x), (q, y)]) : KBinds K fd [p, q] [p, q] kwT kwT := by
  refine ⟨fun s us ws k l => ?_, fun {vs us zs ws} a b => ?_⟩
  · match us, ws, l with
    | [], [x, y], _ => exact h s x y k
    | [], [], l => cases l
    | [], [_], l => cases l
    | [], _ :: _ :: _ :: _, l => cases l
    | _ :: _, _, l => cases l
  · match vs, us, a, zs, ws, b with
    | [], [], _, [x, y], [x', y'], .cons h1 (.cons h2 _) => exact .cons h1 (.cons h2 .nil)
    | [], [], _, [], [], _ => exact .nil
    | [], [], _, [_], [_], _ => exact .nil
    | [], [], _, _ :: _ :: _ :: _, _ :: _ :: _ :: _, _ => exact .nil
    | _ :: _, _ :: _, _, _, _, _ => exact .nil
def kwS {α : Type} (us ws : List α) : List α := match us, ws with
  | [], [x, y] => [y, x]
  | _, _ => []
theorem kb2s {K : PySem.W.Frag} {fd : FuncData} {p q : Str} (h : ∀ (s : Shared) (x y : Value), K.In s.heap → BindsTo s fd ⟨[], [(q, x), (p, y)]⟩ [(p, y), (q, x)]) : KBinds K fd [p, q] [q, p] kwS kwS := by
  refine ⟨fun s us ws k l => ?_, fun {vs us zs ws} a b => ?_⟩
  · match us, ws, l with
    | [], [x, y], _ => exact h s x y k
    | [], [], l => cases l
    | [], [_], l => cases l
    | [], _ :: _ :: _ :: _, l => cases l
    | _ :: _, _, l => cases l
  · match vs, us, a, zs, ws, b with
    | [], [], _, [x, y], [x', y'], .cons h1 (.cons h2 _) => exact .cons h2 (.cons h1 .nil)
    | [], [], _, [], [], _ => exact .nil
    | [], [], _, [_], [_], _ => exact .nil
    | [], [], _, _ :: _ :: _ :: _, _ :: _ :: _ :: _, _ => exact .nil
    | _ :: _, _ :: _, _, _, _, _ => exact .nil
theorem kb_runs_of {K : PySem.W.Frag} {f : Addr} {fd : FuncData} (F : Fun K "runs_of" "runs_of" s_runs_of f fd) : KBinds K fd ["source", "part"] ["source", "part"] kwT kwT := by
  obtain ⟨oc, od, kV, doc, pm, an, cdv, ct, osl, rfl, lk, hcd⟩ := F.ex
  exact kb2 fun s x y k => .of_eq rfl
theorem kb_asks_of {K : PySem.W.Frag} {f : Addr} {fd : FuncData} (F : Fun K "asks_of" "asks_of" s_asks_of f fd) : KBinds K fd ["source", "part"] ["part", "source"] kwS kwS := by
  obtain ⟨oc, od, kV, doc, pm, an, cdv, ct, osl, rfl, lk, hcd⟩ := F.ex
  exact kb2s fun s x y k => .of_eq rfl
/-- asked for what is none -/
def spOddP (CR CN : Addr) : Sp := fun vs H Q E => ∃ (Z : Addr → Prop) (v u : V) (d y : PyData), vs = [v, u] ∧ DA Z H v d ∧ DA Z H u y ∧ ((roomJ d = false ∧ ∀ H', Same H H' → E (.ref CR) none H') ∨
  (roomJ d = true ∧ partOf (partsD d) y = none ∧ ShR H u ∧ ∀ dd H', Same H H' → H dd = none → H' dd = some (.xd [("part", u)]) → E (.ref CN) (some dd) H'))
theorem odd_runs {CR CN : Addr} {vs : List V} {H : Hp} {Q : VK} {E : XK} (h : spOddP CR CN vs H Q E) : spRunsOf CR CN vs H Q E := by
  obtain ⟨Z, v, u, d, y, e, h1, h2, h3⟩ := h
  rcases h3 with ⟨j, k⟩ | ⟨j, n, sh, k⟩
  · exact ⟨Z, v, u, d, y, e, h1, h2, fun _ => k, fun z => absurd z (by rw [j]; decide), fun z => absurd z (by rw [j]; decide)⟩
  · exact ⟨Z, v, u, d, y, e, h1, h2, fun z => absurd z (by rw [j]; decide), fun _ _ => ⟨sh, k⟩, fun _ p z => absurd z (by rw [n]; exact fun q => nomatch q)⟩
theorem odd_asks {CR CN : Addr} {vs : List V} {H : Hp} {Q : VK} {E : XK} (h : spOddP CR CN vs H Q E) : spAsksOf CR CN vs H Q E := by
  obtain ⟨Z, v, u, d, y, e, h1, h2, h3⟩ := h
  rcases h3 with ⟨j, k⟩ | ⟨j, n, sh, k⟩
  · exact ⟨Z, v, u, d, y, e, h1, h2, fun _ => k, fun z => absurd z (by rw [j]; decide), fun z => absurd z (by rw [j]; decide)⟩
  · exact ⟨Z, v, u, d, y, e, h1, h2, fun z => absurd z (by rw [j]; decide), fun _ _ => ⟨sh, k⟩, fun _ p z => absurd z (by rw [n]; exact fun q => nomatch q)⟩
def spLawT (K : PySem.W.Frag) (T : List (Addr × Str)) : Sp := fun vs H Q _ => ∃ (a : Addr) (ns : List Int), vs = [.ref a] ∧ SqL K H a (ns.map V.int) ∧ ns.length ≤ 63 ∧ Tabs T H ∧ ∀ H', Q (.bl true) H'
section
variable {P : Program} {w : World} {K : PySem.W.Frag} {mg : Str → Option Value} {base : Heap}
abbrev nLaw : List Str := ["script", "state", "turn", "room", "part", "names", "due", "odd", "act", "error", "name"]
theorem sc_law : FnScope nLaw ["script"] (defScope s_law) := ⟨rfl, rfl, rfl, by decide +kernel, rfl, by decide +kernel, by decide +kernel⟩
theorem ok_law {f c0 Pt CO CR CN fC fR fA : Addr} {fdC fdR fdA : FuncData} {Ts : List (Addr × Str)} {oc : Value} {od an : Option Addr} {kV doc pm ct : Value} {osl : Array (Option Value)}
    (lk : K.lookup f = some ⟨oc, od, .func (PySem.W.fnOf "law" "law" (defArgs s_law) (defBody s_law) (defScope s_law) .none kV doc pm an (.ref c0) ct), osl⟩) (hcd : PySem.W.codeIn K (.ref c0) "law" = true)
    (T : Txt K mg) (nMin : mg "min" = none) (nSet : mg "set" = none) (TB : TabB base mg c0 Pt) (hT : ((Pt, "law.<locals>.<lambda>") : Addr × Str) ∈ Ts) (hu : ∀ p ∈ Ts, p.1 = Pt → p.2 = "law.<locals>.<lambda>")
    (gO : mg "OwnharmError" = some (.ref CO))
    (TN : ErrF P K mg "NoPart" "part" CN) (mON : PySem.W.exmOne K (.ref CN) (.ref CO) = some true) (iN : PySem.W.kitOne K (.ref CN) (.ref CN) = some true)
    (ER : ErrC K mg "BadRoom" CR) (XR : ExcC K CR) (mOR : PySem.W.exmOne K (.ref CR) (.ref CO) = some true) (iR : PySem.W.kitOne K (.ref CR) (.ref CR) = some true)
    (FC : Fun K "_law_caught" "_law_caught" s__law_caught fC fdC) (mC : mg "_law_caught" = some (.ref fC)) (bC : Binds K fdC ["action"] [])
    (FR : FnOk P w K mg base (L2.CX P w) 22 fR fdR ["source", "part"] (spRunsOf CR CN)) (mR : mg "runs_of" = some (.ref fR)) (kR : PySem.W.keepIn K (.ref fR) = true) (bR : Binds K fdR ["source", "part"] []) (kbR : KBinds K fdR ["source", "part"] ["source", "part"] kwT kwT)
    (FA : FnOk P w K mg base (L2.CX P w) 22 fA fdA ["source", "part"] (spAsksOf CR CN)) (mA : mg "asks_of" = some (.ref fA)) (kA : PySem.W.keepIn K (.ref fA) = true) (bA : Binds K fdA ["source", "part"] []) (kbA : KBinds K fdA ["source", "part"] ["part", "source"] kwS kwS)
    (DB : DefF P w K mg base CX0 24 "_law_begun" ["script"] (spBegun K)) (DRR : DefF P w K mg base CX0 24 "_law_runner_room" ["state"] spRunner) (DI : DefF P w K mg base CX0 24 "is_room" ["value"] spGoodRoom)
    (DBo : DefF P w K mg base CX0 1 "_law_bodies" ["room"] spBodies) (DL : DefF P w K mg base CX0 24 "_law_led_to" ["room", "part"] spLed) (DK : DefF P w K mg base CX0 24 "_law_asked_in" ["room", "names"] spAsked) :
    FnG P w K mg base CX0 25 f (PySem.W.fnOf "law" "law" (defArgs s_law) (defBody s_law) (defScope s_law) .none kV doc pm an (.ref c0) ct) ["script"] (spLawT K Ts) := by
  refine ⟨fun vs H Q E h => ?_, fun A out s H ar us vs Q E gd0 hr0 e0 hb r hs => ?_⟩
  · obtain ⟨a, ns, rfl, _⟩ := h
    rfl
  obtain ⟨oC, oD, kVC, docC, pmC, anC, cdC, ctC, oslC, rfl, lkC, cgC⟩ := FC.ex
  refine LamX.run_ofS lk hcd sc_law hr0 e0 hb r (by obtain ⟨a, ns, rfl, _⟩ := hs; rfl) fun hr => ?_
  have gd : (A.deeper (envOfC "law" (defScope s_law) s.heap.objs.size f (.ref c0))).guards = some [] := gd0
  obtain ⟨a, ns, rfl, ha, hns, hTb, k⟩ := hs
  have nd := sc_law.nd
  have hr1 : Room 1 _ := hr.mono (by decide)
  have huS := hr.units
  have both : ∀ f sp, RA2 fR fA (spOddP CR CN) f sp → ∃ fd ps, FnOk P w K mg base (L2.CX P w) 22 f fd ps sp ∧ PySem.W.keepIn K (.ref f) = true ∧ Binds K fd ps [] := fun f sp ⟨h, e⟩ => by
    subst e
    rcases h with rfl | rfl
    · exact ⟨_, _, ⟨fun vs H Q E h => FR.len vs H Q E (odd_runs h), fun A out s H ar us vs Q E hr he hb hv h => FR.run A out s H ar us vs Q E hr he hb hv (odd_runs h)⟩, kR, bR⟩
    · exact ⟨_, _, ⟨fun vs H Q E h => FA.len vs H Q E (odd_asks h), fun A out s H ar us vs Q E hr he hb hv h => FA.run A out s H ar us vs Q E hr he hb hv (odd_asks h)⟩, kA, bA⟩
  refine (fun (main : ∃ t, PSs (cxOf CX0 P w K mg base nLaw "law" (defScope s_law) f (.ref c0) A out s H E).nox (defBody s_law) t ∧
      t { nx := fun _ H' => Q .non H', rt := Q } (L2.start nLaw [.ref a]) H) => (by obtain ⟨t, h1, h2⟩ := main; exact ⟨t, h1.nox, h2⟩)) ?_
  refine ⟨_, pss_cons (ps_set (i := 1) nd rfl (Or.inl rfl) (pe_cD DB hr rfl pass0 (pa_cons (pv 0) pa_nil)))
      (pss_cons (ps_for PassesOwn.never rfl (pi_range1 rfl T.nRange (pa_cons (pe_op op_add pe_int (pe_callB (call_min2 rfl) (by rfl) nMin (by decide +kernel) (pa_cons (pe_callB call_len_seq (by rfl) T.nLen PySem.boot_len (pa_cons (pv 0) pa_nil)) (pa_cons pe_int pa_nil)))) pa_nil)) (pg_name (i := 2) nd rfl (Or.inl rfl))
        (pss_cons (ps_set (i := 3) nd rfl (Or.inr rfl) (pe_cD DRR hr rfl pass0 (pa_cons (pv 1) pa_nil)))
      (pss_cons (ps_if (pt_not (pt_val (pe_cD DI hr rfl pass0 (pa_cons (pv 3) pa_nil)))) (pss_one (ps_ret pe_bl)) pss_nil)
      (pss_cons (ps_for PassesOwn.never rfl (pi_keys (pe_frz (pe_cD DBo hr1 rfl pass0 (pa_cons (pv 3) pa_nil)))) (pg_name (i := 4) nd rfl (Or.inr rfl))
        (pss_cons (ps_set (i := 5) nd rfl (Or.inl rfl) (pe_cD DL hr rfl pass0 (pa_cons (pv 3) (pa_cons (pv 4) pa_nil))))
      (pss_cons (ps_set (i := 6) nd rfl (Or.inl rfl) (pe_callTy call_tuple_of (by rfl) T.nTuple (by decide +kernel) (pa_cons (pe_callB cr_sortedS (by rfl) T.nSorted (by decide +kernel) (pa_cons (pe_lc (own := [("name", 10)]) (g := gName 10) (tt := tTest (tOp rNe (tVar 10) (tVar 4))) (te := tVar 10) rfl nd (pi_list (pv 5)) (blkOk_by (own := [("name", 10)]) (N := nLaw) (sc := defScope s_law) (by decide +kernel)) (fun _ _ _ _ _ => (pg_name (i := 10) nd rfl (Or.inl rfl))) (fun _ _ _ _ _ => pts_one (pt_cmpR op_ne (pv 10) (pv 4) (nomark _))) (fun _ _ _ _ _ => (pv 10))) pa_nil)) pa_nil)))
      (pss_cons (ps_if (pt_cmpR op_ne (pe_callB (call_reprV hr gd) (by rfl) T.nRepr (by decide +kernel) (pa_cons (pe_callK0 FR (hr.mono (by decide)) rfl mR kR kbR passL (pk_cons (pv 3) (pk_cons (pv 4) pk_nil))) pa_nil)) (pe_callB (call_reprV hr gd) (by rfl) T.nRepr (by decide +kernel) (pa_cons (pv 6) pa_nil)) (nomark _)) (pss_one (ps_ret pe_bl)) pss_nil)
      (pss_one (ps_if (pt_cmpR op_ne (pe_callB (call_reprV hr gd) (by rfl) T.nRepr (by decide +kernel) (pa_cons (pe_callK0 FA (hr.mono (by decide)) rfl mA kA kbA passL (pk_cons (pv 4) (pk_cons (pv 3) pk_nil))) pa_nil)) (pe_callB (call_reprV hr gd) (by rfl) T.nRepr (by decide +kernel) (pa_cons (pe_callTy call_tuple_of (by rfl) T.nTuple (by decide +kernel) (pa_cons (pe_sortSetP huS (by rfl) T.nSorted (by rfl) nSet (pe_cD DK hr rfl pass0 (pa_cons (pv 3) (pa_cons (pv 5) pa_nil)))) pa_nil)) pa_nil)) (nomark _)) (pss_one (ps_ret pe_bl)) pss_nil))))))
      (pss_one (ps_for PassesOwn.never rfl (pi_list (pe_lst (pa_cons pe_non (pa_cons pe_int (pa_cons pe_str (pa_cons pe_str (pa_cons (pe_tup (pa_cons pe_str pa_nil)) (pa_cons (pe_lst (pa_cons pe_str pa_nil)) (pa_cons pe_str pa_nil))))))))) (pg_name (i := 7) nd rfl (Or.inr rfl))
        (pss_one (ps_for PassesOwn.never rfl (pi_list (pe_lst (pa_cons (pe_glob (v := .ref fR) rfl mR rfl) (pa_cons (pe_glob (v := .ref fA) rfl mA rfl) pa_nil)))) (pg_name (i := 8) nd rfl (Or.inr rfl))
        (pss_cons (ps_set (i := 9) nd rfl (Or.inl rfl) (LamX.pe_lamcall (k := 22) (params := _) (t := fun E => _) rfl mC FC.kp lkC cgC bC sc__law_caught rfl (Or.inl rfl) (caught_givesJ gO) TB rfl hT hu hr (LamX.lamS_by (by show LamX.lamSB (defScope s_law) _ = true; decide +kernel)) rfl (fun _ _ _ _ _ => rfl) (fun A outer s H E f c' hr2 => (pe_callVS (i := 8) (R := RA2 fR fA (spOddP CR CN)) both hr2 rfl (Or.inr (Or.inr rfl)) (fun σ => L2.passAt (takes_of rfl rfl rfl rfl) σ) (pa_cons (pv 3) (pa_cons (pv 7) pa_nil))))))
      (pss_cons (ps_if (PW.pt (pw_or (pt_not (pt_val (pe_callB (call_isJA TN.i) (by rfl) T.nIsi (by decide +kernel) (pa_cons (pv 9) (pa_cons (pe_glob (v := .ref CN) rfl TN.g rfl) pa_nil))))) (pw_or1 (pt_cmpR op_ne (pe_callB (call_reprV hr gd) (by rfl) T.nRepr (by decide +kernel) (pa_cons (pe_heldf TN.f (pv 9)) pa_nil)) (pe_callB (call_reprV hr gd) (by rfl) T.nRepr (by decide +kernel) (pa_cons (pv 7) pa_nil)) (nomark _))))) (pss_one (ps_ret pe_bl)) pss_nil)
      (pss_one (ps_if (pt_not (pt_val (pe_callB (call_isJA XR) (by rfl) T.nIsi (by decide +kernel) (pa_cons (LamX.pe_lamcall (k := 22) (params := _) (t := fun E => _) rfl mC FC.kp lkC cgC bC sc__law_caught rfl (Or.inl rfl) (caught_givesJ gO) TB rfl hT hu hr (LamX.lamS_by (by show LamX.lamSB (defScope s_law) _ = true; decide +kernel)) rfl (fun _ _ _ _ _ => rfl) (fun A outer s H E f c' hr2 => (pe_callVS (i := 8) (R := RA2 fR fA (spOddP CR CN)) both hr2 rfl (Or.inr (Or.inr rfl)) (fun σ => L2.passAt (takes_of rfl rfl rfl rfl) σ) (pa_cons (pe_slice (show SlR _ (rSlT K) from sl_tup) (pv 3) po_none (po_some pe_int)) (pa_cons (pv 7) pa_nil))))) (pa_cons (pe_glob (v := .ref CR) rfl ER.g rfl) pa_nil))))) (pss_one (ps_ret pe_bl)) pss_nil))))))))))))
      (pss_one (ps_ret pe_bl))), ?_⟩
  have sL := sizeLine_eq
  refine ⟨_, rfl, a, ns, rfl, ha, hns, fun st g c H1 n1 n2 n3 s1 S1 => ?_⟩
  have T1 := hTb.ext s1
  have ha1 : SqL K H1 a (ns.map V.int) := L2.SqL.ext ha s1
  obtain ⟨m, hm3, em⟩ : ∃ m : Nat, m ≤ 3 ∧ (1 + (if (2 : Int) < ((ns.map V.int).length : Int) then 2 else ((ns.map V.int).length : Int))) = (m : Int) := by
    split
    · exact ⟨3, by decide, rfl⟩
    · exact ⟨1 + (ns.map V.int).length, by omega, by omega⟩
  refine ⟨_, rfl, a, _, rfl, .inl ha1, _, _, rfl, _, _, rfl, rfl, _, rfl, (by rw [em]; omega), (by rw [em]; omega), ?_⟩
  rw [em, Int.toNat_natCast]
  refine for_range (lo := 0) (n := m) (fun i σ H' => ∃ (o2 o3 o4 o5 o6 o7 o8 o9 : Option V), σ = [some (.ref a), some (.ref st), o2, o3, o4, o5, o6, o7, o8, o9, none] ∧ SA H' st g c (2000 * i) ∧ Tabs Ts H')
    ⟨_, _, _, _, _, _, _, _, rfl, S1, T1⟩ ?turn ?done
  case done =>
    rintro σ H2 ⟨o2, o3, o4, o5, o6, o7, o8, o9, rfl, _, _⟩
    exact k _
  case turn =>
  rintro i σ H2 hi ⟨o2, o3, o4, o5, o6, o7, o8, o9, rfl, S2, T2⟩
  refine ⟨_, rfl, st, g, c, _, rfl, S2, by omega, fun v ims kn fs ds H3 dr hv S3 F3 => ?_⟩
  have T3 := tabs_fr T2 S2 F3
  have hj := dr.room
  refine ⟨_, rfl, NoZ, v, rmD ims fs ds, rfl, hv, fun H4 s4 => ?_⟩
  rw [hj]
  refine ⟨_, rfl, iteF ?_⟩
  have hv4 := hv.same s4
  have S4 := S3.same s4
  have T4 := T3.ext s4
  have lw4 := dr.lw hv4
  clear hv S3 T3 F3 s4 S2 T2
  refine ⟨_, rfl, v, "here", _, _, fs, ds, rfl, lw4.rm, fun dd kvs H5 s5 ndd hdd bdat => ?_⟩
  refine ⟨dd, _, rfl, hdd, trivial, fun od => ⟨dd, od, rfl, .inl ⟨_, upd_same, ?_⟩⟩⟩
  have s46 : Same H4 (upd H5 dd (.frz od (.dK kvs))) := Same.updL s5 ndd
  have hf : upd H5 dd (.frz od (.dK kvs)) dd = some (.frz od (.dK kvs)) := upd_same
  generalize upd H5 dd (.frz od (.dK kvs)) = H6 at s46 hf ⊢
  have hv6 := hv4.same s46
  have S6 := S4.same s46
  have T6 := T4.ext s46
  have lw6 := dr.lw hv6
  clear hv4 S4 T4 lw4 s46
  have un := lw6.rm.un
  have ok := lw6.ok
  refine for_it (walk_keys (d := dd) (o := od) (kvs := kvs)) (fun j σ H' => ∃ (o4 o5 o6 : Option V), σ = [some (.ref a), some (.ref st), some (.int (0 + (i : Int))), some v, o4, o5, o6, o7, o8, o9, none] ∧ Same H6 H')
    ⟨_, _, _, rfl, Same.refl _⟩ (fun j σ H' _ ⟨_, _, _, _, h⟩ => h _ _ hf) ?part ?odds
  case part =>
    rintro j x σ H7 H8 hj8 ⟨o4', o5', o6', rfl, s67⟩ ⟨rfl, k1, v1, hk, rfl⟩
    obtain ⟨p, hp, e1, _⟩ := paired_nth bdat hk
    have e1 : k1 = Sum.inr (nameB p) := e1
    subst e1
    have ekv : L2.kV (Sum.inr (nameB p)) = V.str (nameB p) := rfl
    have mp := List.mem_of_getElem? hp
    have lw7 := lw6.same s67
    have hv7 := hv6.same s67
    have hpo := partOf_mem un mp
    have pin := dr.nm p mp
    have psh : (nameB p).length ≤ 1000 := (by decide +kernel : ∀ z ∈ allM, z.length ≤ 1000) _ pin
    obtain ⟨jp, _, ptp⟩ := part_pt ok lw6.rm.lf mp
    refine ⟨_, rfl, _, rfl, v, "here", _, _, p, fs, ds, rfl, lw7, mp, fun l zs H9 s9 nl hl nz iff z7 => ?_⟩
    have zin : ∀ z ∈ zs, z ∈ allM := fun z m => by
      rcases (iff z).mp m with rfl | r
      · exact pin
      · obtain ⟨g1, m1, rfl⟩ := List.mem_map.mp (reach_fn un ok r ptp)
        exact dr.nm g1 (List.mem_append_left _ m1)
    -- due
    refine ⟨_, rfl, l, rfl, ⟨_, SqL.of hl⟩, fun LL nLL => ?_⟩
    refine lc_it (walk_list (xs := zs.map V.str)) (fun j H' => Same H9 H' ∧ H' LL = some (.lst (((zs.take j).filter (fun z => decide (z ≠ nameB p))).map V.str)))
      ⟨Same.updL (Same.refl _) nLL, upd_same⟩ (fun j H' _ h => SqL.of (h.1 _ _ hl)) ?tl ?dl
    case tl =>
      rintro j3 x3 Ha Hb hj3 ⟨sa, hLL⟩ ⟨rfl, hx3⟩
      rw [List.getElem?_map] at hx3
      obtain ⟨z, hz, rfl⟩ := Option.map_eq_some_iff.mp hx3
      have et : zs.take (j3 + 1) = zs.take j3 ++ [z] := by rw [List.take_add_one, hz]; rfl
      refine ⟨rfl, _, rfl, _, rfl, rfl, _, rfl, ?_⟩
      by_cases q : z = nameB p
      · try dsimp only []
        rw [if_neg (by simp [q, ekv])]
        refine ⟨sa, ?_⟩
        rw [hLL, et, List.filter_append]
        simp [q]
      · try dsimp only []
        rw [if_pos (by simp [q, ekv])]
        refine ⟨_, rfl, _, hLL, ?_, Same.updL sa nLL, ?_⟩
        · have q1 := List.length_filter_le (fun z => decide (z ≠ nameB p)) (zs.take j3)
          have q2 : (zs.take j3).length ≤ zs.length := by rw [List.length_take]; exact Nat.min_le_right _ _
          rw [List.length_map]
          omega
        · rw [et, List.filter_append, List.map_append]
          refine upd_same.trans ?_
          simp [q]
    case dl =>
    rintro Ha ⟨sa, hLL⟩
    rw [List.length_map, List.take_length] at hLL
    have lf := List.length_filter_le (fun z => decide (z ≠ nameB p)) zs
    refine ⟨LL, _, rfl, SqL.of hLL, by omega, fun ys q pys sys nq => ?_⟩
    refine ⟨q, _, rfl, .inl ⟨SqL.of upd_same, fun t nt => ?_⟩⟩
    have sq := sadd (o := .lst (ys.map V.str)) (Same.refl Ha) nq
    have st' := sadd (o := .tup (ys.map V.str)) sq nt
    have s9t := sa.trans st'
    have ht : upd (upd Ha q (.lst (ys.map V.str))) t (.tup (ys.map V.str)) t = some (.tup (ys.map V.str)) := upd_same
    generalize upd (upd Ha q (.lst (ys.map V.str))) t (.tup (ys.map V.str)) = Hc at s9t ht ⊢
    have s7c := s9.trans s9t
    clear sq st' nq nt sa nLL hLL
    have yiff : ∀ z, z ∈ ys ↔ Reach (fs ++ ds) p z := fun z => by
      rw [pys.mem_iff, List.mem_filter, iff z]
      constructor
      · rintro ⟨e | r, n⟩
        · exact absurd e (of_decide_eq_true n)
        · exact r
      · exact fun r => ⟨.inr r, decide_eq_true (reach_irr un ok mp r)⟩
    have ynd : ys.Nodup := pys.nodup_iff.mpr (nz.filter _)
    have yin : ∀ z ∈ ys, z ∈ allM := fun z m => zin z (List.mem_filter.mp (pys.mem_iff.mp m)).1
    have yl : ys.length ≤ 7 := by rw [pys.length_eq]; omega
    -- runs_of
    refine ⟨_, rfl, _, rfl, NoZ, v, .str (nameB p), rmD ims fs ds, .str (nameB p), rfl, hv7.same s7c, .str _ psh, fun z => absurd z (by rw [hj]; decide), fun _ z => absurd z (by rw [show partsD (rmD ims fs ds) = fs ++ ds from rfl, hpo]; exact fun q => nomatch q), fun _ p' e' ks l' Hd sd hl' so nd' iff' => ?_⟩
    have e' : partOf (fs ++ ds) (.str (nameB p)) = some p' := e'
    rw [hpo] at e'
    injection e' with e'
    subst e'
    have ek : ks = ys := strs_uniq so sys (perm_mem nd' ynd fun z => by rw [iff' z, yiff z]; rfl)
    subst ek
    have ply : Plain 4000000 20 (.tuple (ks.map PyData.str)) := (Plain.tup (n := 20) (k := 0) (m := 7) (fun d hd => by
      obtain ⟨z, hz, rfl⟩ := List.mem_map.mp hd
      exact plain_nm z (yin z hz)) (by rw [List.length_map]; exact yl)).mono (by decide) (by decide)
    refine ⟨.ref l', _, rfl, .tup (SqT.of hl') (dp_strs ks), ply, ?_⟩
    refine ⟨_, rfl, .ref t, _, rfl, .tup (SqT.of (sd _ _ ht)) (dp_strs ks), ply, ?_⟩
    generalize PyData.shown _ = tx
    refine ⟨rfl, _, rfl, ite2 (fun z => absurd z (by simp)) (fun _ => ?_)⟩
    -- asks_of
    have s7d := s7c.trans sd
    refine ⟨_, rfl, _, rfl, NoZ, v, .str (nameB p), rmD ims fs ds, .str (nameB p), rfl, hv7.same s7d, .str _ psh, fun z => absurd z (by rw [hj]; decide), fun _ z => absurd z (by rw [show partsD (rmD ims fs ds) = fs ++ ds from rfl, hpo]; exact fun q => nomatch q), fun _ p' e' qs bs l2 He se hl2 pse so2 nd2 iff2 => ?_⟩
    have e' : partOf (fs ++ ds) (.str (nameB p)) = some p' := e'
    rw [hpo] at e'
    injection e' with e'
    subst e'
    have s7e := s7d.trans se
    have iff2 : ∀ q, q ∈ qs ↔ AskBy (fs ++ ds) p q := iff2
    have qin : ∀ q ∈ qs, q ∈ allP := fun q m => dr.askBy mp ((iff2 q).mp m)
    have ql : qs.length ≤ 6 := len_sub (ls := allP) nd2 qin
    have plq : Plain 4000000 20 (.tuple (qs.map prD)) := (Plain.tup (n := 60) (k := 1) (m := 6) (fun d hd => by
      obtain ⟨z, hz, rfl⟩ := List.mem_map.mp hd
      exact plain_pr z (qin z hz)) (by rw [List.length_map]; exact ql)).mono (by decide) (by decide)
    refine ⟨.ref l2, _, rfl, .tup (SqT.of hl2) pse.dpp, plq, ?_⟩
    have s9e := (s9t.trans sd).trans se
    refine ⟨_, rfl, _, rfl, v, "here", _, _, fs, ds, l, zs, rfl, lw7.same s7e, s9e _ _ hl, fun z m => ?_, z7, fun l3 ps rs Hg sg nl3 hl3 psg iff3 lr => ?_⟩
    · rcases (iff z).mp m with rfl | r
      · exact List.mem_map.mpr ⟨p, mp, rfl⟩
      · obtain ⟨g1, m1, rfl⟩ := List.mem_map.mp (reach_fn un ok r ptp)
        exact List.mem_map.mpr ⟨g1, List.mem_append_left _ m1, rfl⟩
    have hall : ∀ q, q ∈ rs ↔ AskBy (fs ++ ds) p q := fun q => by
      rw [iff3 q]
      constructor
      · rintro ⟨y, m, g1, e, h⟩
        rcases (iff y).mp m with rfl | r
        · rw [hpo] at e
          injection e with e
          rw [← e] at h
          exact .inl h
        · exact .inr ⟨y, g1, r, e, h⟩
      · rintro (h | ⟨y, g1, r, e, h⟩)
        · exact ⟨nameB p, (iff _).mpr (.inl rfl), p, hpo, h⟩
        · exact ⟨y, (iff y).mpr (.inr r), g1, e, h⟩
    refine ⟨l3, ps, rs, allP, rfl, SqL.of hl3, psg, by decide, fun q m => dr.askBy mp ((hall q).mp m), fun us cs q so3 nd3 iff4 nq ps3 => ?_⟩
    refine ⟨q, _, rfl, .inl ⟨SqL.of upd_same, fun t2 nt2 => ?_⟩⟩
    have sq := sadd (o := .lst (cs.map V.ref)) (Same.refl Hg) nq
    have sq2 := sadd (o := .tup (cs.map V.ref)) sq nt2
    have ht2 : upd (upd Hg q (.lst (cs.map V.ref))) t2 (.tup (cs.map V.ref)) t2 = some (.tup (cs.map V.ref)) := upd_same
    have ps4 := ps3.same sq2
    generalize upd (upd Hg q (.lst (cs.map V.ref))) t2 (.tup (cs.map V.ref)) = Hh at sq2 ht2 ps4 ⊢
    have eq : qs = us := srt_uniq so2 so3 (perm_mem nd2 nd3 fun z => by rw [iff2 z, iff4 z, hall z])
    subst eq
    refine ⟨.ref t2, _, rfl, .tup (SqT.of ht2) ps4.dpp, plq, ?_⟩
    generalize PyData.shown _ = tx2
    refine ⟨rfl, _, rfl, ite2 (fun z => absurd z (by simp)) (fun _ => ?_)⟩
    exact ⟨_, _, _, rfl, s67.trans (s7e.trans (sg.trans sq2))⟩
  case odds =>
  rintro σ H7 ⟨o4', o5', o6', rfl, s67⟩
  have hv7 := hv6.same s67
  have S7 := S6.same s67
  have T7 := T6.ext s67
  clear hv6 S6 T6 lw6 un ok bdat hf hdd ndd s5 s67
  refine ⟨(by show 1 ≤ sizeLine; decide), fun t1 nt1 => ?_⟩
  have sA := sadd (o := .tup [.str "d1"]) (Same.refl H7) nt1
  have ht1 : upd H7 t1 (.tup [.str "d1"]) t1 = some (.tup [.str "d1"]) := upd_same
  generalize upd H7 t1 (.tup [.str "d1"]) = HA at sA ht1 ⊢
  refine ⟨(by show 1 ≤ sizeLine; decide), fun l1 nl1 => ?_⟩
  have sB := sadd (o := .lst [.str "d1"]) (Same.refl HA) nl1
  have hl1 : upd HA l1 (.lst [.str "d1"]) l1 = some (.lst [.str "d1"]) := upd_same
  generalize upd HA l1 (.lst [.str "d1"]) = HB at sB hl1 ⊢
  refine ⟨(by show 7 ≤ sizeLine; decide), fun L nL => ?_⟩
  obtain ⟨xs, exs⟩ : ∃ xs : List V, xs = [.non, .int 5, .str "none", .str "", .ref t1, .ref l1, .str "west"] := ⟨_, rfl⟩
  rw [← exs]
  have sC := sadd (o := .lst xs) (Same.refl HB) nL
  have hL : upd HB L (.lst xs) L = some (.lst xs) := upd_same
  generalize upd HB L (.lst xs) = HC at sC hL ⊢
  have s7C := (sA.trans sB).trans sC
  have ht := (sB.trans sC) _ _ ht1
  have hl := sC _ _ hl1
  have hv8 := hv7.same s7C
  have S8 := S7.same s7C
  have T8 := T7.ext s7C
  clear sA sB sC s7C ht1 hl1 hv7 S7 T7 nt1 nl1 nL
  have nope : ∀ n : Str, n ∉ allM → partOf (fs ++ ds) (.str n) = none := fun n hn => by
    show (fs ++ ds).find? (fun p => decide (nameB p = n)) = none
    rw [List.find?_eq_none]
    intro p m e
    exact hn (by rw [← of_decide_eq_true e]; exact dr.nm p m)
  obtain ⟨Z, eZ⟩ : ∃ Z : Addr → Prop, Z = fun q => q = l1 := ⟨_, rfl⟩
  have odd : ∀ x ∈ xs, ∃ y, (∀ H', ExtN HC H' → DA Z H' x y ∧ ShR H' x) ∧ partOf (fs ++ ds) y = none ∧ Plain 4000000 20 y := fun x m => by
    have p0 : ∀ {d : PyData}, d.showable = true → d.hasDict = false → d.depth ≤ 20 → d.shown.length ≤ 4000000 → Plain 4000000 20 d := fun a b c d => ⟨a, b, c, d⟩
    rw [exs] at m
    simp only [List.mem_cons, List.not_mem_nil, or_false] at m
    rcases m with rfl | rfl | rfl | rfl | rfl | rfl | rfl
    · exact ⟨.none, fun H' e => ⟨.non, .non⟩, rfl, p0 rfl rfl (by decide +kernel) (by decide +kernel)⟩
    · exact ⟨.int 5, fun H' e => ⟨.int 5, .int 5 (by decide) (by decide)⟩, rfl, p0 (by decide +kernel) rfl (by decide +kernel) (by decide +kernel)⟩
    · exact ⟨.str "none", fun H' e => ⟨.str _ (by decide), .str _ (by decide +kernel)⟩, nope _ (by decide +kernel), p0 rfl rfl (by decide +kernel) (by decide +kernel)⟩
    · exact ⟨.str "", fun H' e => ⟨.str _ (by decide), .str _ (by decide +kernel)⟩, nope _ (by decide +kernel), p0 rfl rfl (by decide +kernel) (by decide +kernel)⟩
    · exact ⟨.tuple [.str "d1"], fun H' e => ⟨.tup (e _ _ ht (fun _ z => nomatch z)) (.cons (.str _ (by decide)) .nil), .tup (l := ["d1"]) (e _ _ ht (fun _ z => nomatch z)) (by decide +kernel) (by decide)⟩, rfl, p0 rfl rfl (by decide +kernel) (by decide +kernel)⟩
    · exact ⟨.list [.str "d1"], fun H' e => ⟨.lst (e _ _ hl (fun _ z => nomatch z)) (by rw [eZ]) (.cons (.str _ (by decide)) .nil), .lst (y := "d1") (l := []) (e _ _ hl (fun _ z => nomatch z)) (by decide +kernel) (by decide)⟩, rfl, p0 rfl rfl (by decide +kernel) (by decide +kernel)⟩
    · exact ⟨.str "west", fun H' e => ⟨.str _ (by decide), .str _ (by decide +kernel)⟩, nope _ (by decide +kernel), p0 rfl rfl (by decide +kernel) (by decide +kernel)⟩
  clear ht hl nope
  refine ⟨L, rfl, ⟨_, SqL.of hL⟩, ?_⟩
  refine for_list (xs := xs) (fun j σ H' => ∃ (o7 o8 o9 : Option V), σ = [some (.ref a), some (.ref st), some (.int (0 + (i : Int))), some v, o4', o5', o6', o7, o8, o9, none] ∧ ExtN HC H' ∧ Tabs Ts H')
    ⟨_, _, _, rfl, extN_of (Same.refl _), T8⟩ (fun j σ H' _ ⟨_, _, _, _, e, _⟩ => SqL.of (e _ _ hL (fun _ z => nomatch z))) ?odd1 ?fin
  case fin =>
    rintro σ H' ⟨o7', o8', o9', rfl, e, T'⟩
    exact ⟨_, _, _, _, _, _, _, _, rfl, (S8.ext e).mono (by omega), T'⟩
  case odd1 =>
  rintro j x σ HD hx ⟨o7', o8', o9', rfl, eD, TD⟩
  obtain ⟨y, hy, yn, yp⟩ := odd x (List.mem_of_getElem? hx)
  refine ⟨(by show 2 ≤ sizeLine; decide), fun M nM => ?_⟩
  have sD := sadd (o := .lst [.ref fR, .ref fA]) (Same.refl HD) nM
  have hM : upd HD M (.lst [.ref fR, .ref fA]) M = some (.lst [.ref fR, .ref fA]) := upd_same
  replace eD := eD.trans (extN_of sD)
  replace TD := TD.ext sD
  generalize upd HD M (.lst [.ref fR, .ref fA]) = HE at sD hM eD TD ⊢
  clear sD nM
  refine ⟨M, rfl, ⟨_, SqL.of hM⟩, ?_⟩
  refine for_list (xs := [.ref fR, .ref fA]) (fun j σ H' => ∃ (o8 o9 : Option V), σ = [some (.ref a), some (.ref st), some (.int (0 + (i : Int))), some v, o4', o5', o6', some x, o8, o9, none] ∧ ExtN HE H' ∧ Tabs Ts H')
    ⟨_, _, rfl, extN_of (Same.refl _), TD⟩ (fun j σ H' _ ⟨_, _, _, e, _⟩ => SqL.of (e _ _ hM (fun _ z => nomatch z))) ?act ?fin2
  case fin2 =>
    rintro σ H' ⟨o8'', o9'', rfl, e, T'⟩
    exact ⟨_, _, _, rfl, eD.trans e, T'⟩
  case act =>
  rintro j2 fv σ HF hfv ⟨o8'', o9'', rfl, eF, TF⟩
  obtain ⟨fy, rfl, rf⟩ : ∃ f, fv = .ref f ∧ RA2 fR fA (spOddP CR CN) f (spOddP CR CN) := by
    have hm := List.mem_of_getElem? hfv
    simp only [List.mem_cons, List.not_mem_nil, or_false] at hm
    rcases hm with rfl | rfl
    · exact ⟨_, rfl, .inl rfl, rfl⟩
    · exact ⟨_, rfl, .inr rfl, rfl⟩
  have eCF := eD.trans eF
  refine ⟨TF, fun H10 e4 T10 Q' hQ' => ?_⟩
  have e10 := eCF.trans e4
  obtain ⟨dx, sx⟩ := hy H10 e10
  have hv10 := (hv8.extN e10).wide (Z' := Z) (fun q h => False.elim h)
  refine ⟨fy, _, rfl, rf, _, rfl, _, rfl, Z, v, x, rmD ims fs ds, y, rfl, hv10, dx, .inr ⟨hj, yn, sx, fun dd2 Hx sx2 ndd2 hdd2 => ⟨mON, fun ex nex => ?_⟩⟩⟩
  have sy := sadd (o := ExJ (.ref CN) (some dd2) ex) sx2 nex
  have held : Held (upd Hx ex (ExJ (.ref CN) (some dd2) ex)) ex CN (some [("part", x)]) := ⟨dd2, upd_same, (sadd (o := ExJ (.ref CN) (some dd2) ex) (Same.refl Hx) nex) _ _ hdd2⟩
  have e11 := e10.trans (extN_of sy)
  have eF11 := (eF.trans e4).trans (extN_of sy)
  have T11 := T10.ext sy
  generalize upd Hx ex (ExJ (.ref CN) (some dd2) ex) = H11 at held e11 eF11 T11 ⊢
  clear sy sx2 ndd2 hdd2 nex hQ' e10 e4 T10 sx dx hv10
  obtain ⟨dx, sx⟩ := hy H11 e11
  refine ⟨_, rfl, some _, ex, .ref CN, .ref CN, true, rfl, held, fun u z => z, iN, _, rfl, iteF ?_⟩
  refine ⟨_, rfl, ex, _, x, rfl, held, rfl, x, y, rfl, dx.dp, yp, ?_⟩
  refine ⟨_, rfl, x, y, rfl, dx.dp, yp, ?_⟩
  generalize PyData.shown _ = tx
  refine ⟨rfl, false, by simp, iteF ?_⟩
  -- a room of four parts
  refine ⟨T11, fun H12 e4 T12 Q' hQ' => ?_⟩
  have e12 := e11.trans e4
  have hv12 := (hv8.extN e12).wide (Z' := Z) (fun q h => False.elim h)
  obtain ⟨ra, rxs, rfl, hra, hrs⟩ := hv12.tupE
  have l5 : rxs.length = 5 := hrs.len
  refine ⟨fy, _, rfl, rf, _, rfl, 4, rfl, ra, rxs, rfl, SqT.of hra, (by
    rw [l5]
    rintro ⟨_, e⟩
    exact absurd e (by decide)), fun p4 np4 => ?_⟩
  have ec : cutV rxs none (some 4) = rxs.take 4 := cutV_to rxs 4
  rw [ec]
  have s4 := sadd (o := .tup (rxs.take 4)) (Same.refl H12) np4
  have h4 : upd H12 p4 (.tup (rxs.take 4)) p4 = some (.tup (rxs.take 4)) := upd_same
  have hrs4 := (hrs.take 4).same s4
  have e13 := e12.trans (extN_of s4)
  have T13 := T12.ext s4
  have eF13 := (eF11.trans e4).trans (extN_of s4)
  generalize upd H12 p4 (.tup (rxs.take 4)) = H13 at h4 hrs4 e13 T13 eF13 ⊢
  obtain ⟨dx, sx⟩ := hy H13 e13
  refine ⟨_, rfl, Z, .ref p4, x, _, y, rfl, DA.tup h4 hrs4, dx, .inl ⟨rfl, fun Hx sx2 => ⟨mOR, fun ey ney => ?_⟩⟩⟩
  have sy := sadd (o := ExJ (.ref CR) none ey) sx2 ney
  refine ⟨none, ey, .ref CR, .ref CR, true, rfl, upd_same, fun u z => z, iR, _, rfl, iteF ?_⟩
  exact ⟨_, _, rfl, eF13.trans (extN_of sy), T13.ext sy⟩

end
end OH
end
section
set_option Elab.async false
set_option linter.all false
set_option maxRecDepth 100000
set_option maxHeartbeats 16000000
/-! The facts of the head put together. -/
namespace OH
open PySem PySem.Spec PyProof.Rows L2
open LamX (Tabs TabS ExtN TabB CodeO)
/-- the keys of a written dict, one behind the other -/
def KeysAre : List DictEntry → List Str → Prop
  | [], [] => True
  | e :: r, x :: xs => (∃ t, e.key = .str x t) ∧ KeysAre r xs
  | _, _ => False
theorem keys_miss {x : Str} : ∀ {es : List DictEntry} {ks : List Str}, KeysAre es ks → x ∉ ks → es.find? (·.key.isStr x) = none ∧ es.any (·.refKey) = false
  | [], [], _, _ => ⟨rfl, rfl⟩
  | e :: r, y :: ys, h, hx => by
    obtain ⟨⟨t, he⟩, hr⟩ := h
    obtain ⟨i1, i2⟩ := keys_miss hr fun z => hx (List.mem_cons_of_mem _ z)
    have ne : y ≠ x := fun z => hx (z ▸ List.mem_cons_self)
    obtain ⟨k, hs, v⟩ := e
    dsimp only at he
    subst he
    constructor
    · rw [List.find?_cons_of_neg, i1]
      rw [PySem.W.isStr_of]
      simp [Value.isStrOf, ne]
    · rw [List.any_cons, i2]
      rfl
  | [], _ :: _, h, _ => h.elim
  | _ :: _, [], h, _ => h.elim
theorem ns_miss {K : PySem.W.Frag} {aF : Addr} {es : Array DictEntry} {n : Nat} {x : Str} {ks : List Str} (lF : K.lookup aF = some ⟨.type "dict", none, .dict es n, #[]⟩) (hk : KeysAre es.toList ks) (hx : x ∉ ks) : PySem.W.nsIn K aF x = some none := by
  obtain ⟨h1, h2⟩ := keys_miss hk hx
  unfold PySem.W.nsIn
  rw [lF]
  dsimp only
  rw [h1]
  dsimp only
  rw [h2]
  rfl
def wordsL : List Str := ["block", "depth", "door", "else", "function", "give", "if", "rest", "room", "stop", "uses", "while"]
theorem wd_mk {w : World} {K : PySem.W.Frag} {mg : Str → Option Value} {h : Heap} (KX : K.In h) (G : h.Ns mainGlobals mg) {aW : Addr} {es : Array DictEntry} {n : Nat} {v : Value}
    (aaW : PySem.W.nsIn K mainGlobals "WORDS" = some (some (.ref aW))) (lW : K.lookup aW = some ⟨.type "dict", none, .dict es n, #[]⟩) (low : (aW == sysModules) = false) (ek : KeysAre es.toList wordsL) (keys : PySem.W.KeysLit w.params es.toList)
    (r0 : PySem.W.nsIn K aW "block" = some (some v)) (r1 : PySem.W.nsIn K aW "depth" = some (some v)) (r2 : PySem.W.nsIn K aW "door" = some (some v)) (r3 : PySem.W.nsIn K aW "else" = some (some v)) (r4 : PySem.W.nsIn K aW "function" = some (some v)) (r5 : PySem.W.nsIn K aW "give" = some (some v)) (r6 : PySem.W.nsIn K aW "if" = some (some v)) (r7 : PySem.W.nsIn K aW "rest" = some (some v)) (r8 : PySem.W.nsIn K aW "room" = some (some v)) (r9 : PySem.W.nsIn K aW "stop" = some (some v)) (r10 : PySem.W.nsIn K aW "uses" = some (some v)) (r11 : PySem.W.nsIn K aW "while" = some (some v)) : Wd K w mg aW := by
  refine ⟨PySem.W.mg_of KX G aaW, ⟨es, n, lW, keys, low⟩, fun z => ?_⟩
  by_cases m : z ∈ wordsL
  · refine ⟨some v, ?_, ?_⟩
    · simp only [wordsL, List.mem_cons, List.not_mem_nil, or_false] at m
      rcases m with rfl | rfl | rfl | rfl | rfl | rfl | rfl | rfl | rfl | rfl | rfl | rfl
      · exact r0
      · exact r1
      · exact r2
      · exact r3
      · exact r4
      · exact r5
      · exact r6
      · exact r7
      · exact r8
      · exact r9
      · exact r10
      · exact r11
    · exact (decide_eq_true m).symm
  · exact ⟨none, ns_miss lW ek m, (decide_eq_false m).symm⟩
theorem ops_mk {K : PySem.W.Frag} {aO : Addr} {dd : Option Addr} {t0 t1 t2 t3 t4 t5 : Tok} {n : Nat} {sl : Array (Option Value)} (hl : K.lookup aO = some ⟨.type "tuple", dd, .seq #[.str "plus" t0, .str "minus" t1, .str "times" t2, .str "rest" t3, .str "less" t4, .str "same" t5] n, sl⟩) : ∀ H, SqT K H aO (opsL.map V.str) := fun H =>
  .inr ⟨_, _, _, hl, rfl, rfl, by show 6 ≤ sizeLine; decide, .cons ⟨t0, rfl⟩ (.cons ⟨t1, rfl⟩ (.cons ⟨t2, rfl⟩ (.cons ⟨t3, rfl⟩ (.cons ⟨t4, rfl⟩ (.cons ⟨t5, rfl⟩ (.nil))))))⟩
theorem all_mk {l : PySem.W.OpenLaw} {w : World} {K : PySem.W.Frag} {mg : Str → Option Value} {fa : Addr} {h : Heap} {n : Nat}
    {f0 : Addr} {oc0 kV0 dc0 pm0 ct0 cd0 : Value} {od0 an0 : Option Addr} {sl0 : Array (Option Value)}
    {f1 : Addr} {oc1 kV1 dc1 pm1 ct1 cd1 : Value} {od1 an1 : Option Addr} {sl1 : Array (Option Value)}
    {f2 : Addr} {oc2 kV2 dc2 pm2 ct2 cd2 : Value} {od2 an2 : Option Addr} {sl2 : Array (Option Value)}
    {f3 : Addr} {oc3 kV3 dc3 pm3 ct3 cd3 : Value} {od3 an3 : Option Addr} {sl3 : Array (Option Value)}
    {f4 : Addr} {oc4 kV4 dc4 pm4 ct4 cd4 : Value} {od4 an4 : Option Addr} {sl4 : Array (Option Value)}
    {f5 : Addr} {oc5 kV5 dc5 pm5 ct5 cd5 : Value} {od5 an5 : Option Addr} {sl5 : Array (Option Value)}
    {f6 : Addr} {oc6 kV6 dc6 pm6 ct6 cd6 : Value} {od6 an6 : Option Addr} {sl6 : Array (Option Value)}
    {f7 : Addr} {oc7 kV7 dc7 pm7 ct7 cd7 : Value} {od7 an7 : Option Addr} {sl7 : Array (Option Value)}
    {f8 : Addr} {oc8 kV8 dc8 pm8 ct8 cd8 : Value} {od8 an8 : Option Addr} {sl8 : Array (Option Value)}
    {f9 : Addr} {oc9 kV9 dc9 pm9 ct9 cd9 : Value} {od9 an9 : Option Addr} {sl9 : Array (Option Value)}
    {f10 : Addr} {oc10 kV10 dc10 pm10 ct10 cd10 : Value} {od10 an10 : Option Addr} {sl10 : Array (Option Value)}
    {f11 : Addr} {oc11 kV11 dc11 pm11 ct11 cd11 : Value} {od11 an11 : Option Addr} {sl11 : Array (Option Value)}
    {f12 : Addr} {oc12 kV12 dc12 pm12 ct12 cd12 : Value} {od12 an12 : Option Addr} {sl12 : Array (Option Value)}
    {f13 : Addr} {oc13 kV13 dc13 pm13 ct13 cd13 : Value} {od13 an13 : Option Addr} {sl13 : Array (Option Value)}
    {f14 : Addr} {oc14 kV14 dc14 pm14 ct14 cd14 : Value} {od14 an14 : Option Addr} {sl14 : Array (Option Value)}
    {f15 : Addr} {oc15 kV15 dc15 pm15 ct15 cd15 : Value} {od15 an15 : Option Addr} {sl15 : Array (Option Value)}
    {f16 : Addr} {oc16 kV16 dc16 pm16 ct16 cd16 : Value} {od16 an16 : Option Addr} {sl16 : Array (Option Value)}
    {f17 : Addr} {oc17 kV17 dc17 pm17 ct17 cd17 : Value} {od17 an17 : Option Addr} {sl17 : Array (Option Value)}
    {f18 : Addr} {oc18 kV18 dc18 pm18 ct18 cd18 : Value} {od18 an18 : Option Addr} {sl18 : Array (Option Value)}
    {f19 : Addr} {oc19 kV19 dc19 pm19 ct19 cd19 : Value} {od19 an19 : Option Addr} {sl19 : Array (Option Value)}
    {f20 : Addr} {oc20 kV20 dc20 pm20 ct20 cd20 : Value} {od20 an20 : Option Addr} {sl20 : Array (Option Value)}
    {f21 : Addr} {oc21 kV21 dc21 pm21 ct21 cd21 : Value} {od21 an21 : Option Addr} {sl21 : Array (Option Value)}
    {f22 : Addr} {oc22 kV22 dc22 pm22 ct22 cd22 : Value} {od22 an22 : Option Addr} {sl22 : Array (Option Value)}
    {f23 : Addr} {oc23 kV23 dc23 pm23 ct23 cd23 : Value} {od23 an23 : Option Addr} {sl23 : Array (Option Value)}
    {f24 : Addr} {oc24 kV24 dc24 pm24 ct24 cd24 : Value} {od24 an24 : Option Addr} {sl24 : Array (Option Value)}
    {f25 : Addr} {oc25 kV25 dc25 pm25 ct25 cd25 : Value} {od25 an25 : Option Addr} {sl25 : Array (Option Value)}
    {f26 : Addr} {oc26 kV26 dc26 pm26 ct26 cd26 : Value} {od26 an26 : Option Addr} {sl26 : Array (Option Value)}
    {f27 : Addr} {oc27 kV27 dc27 pm27 ct27 cd27 : Value} {od27 an27 : Option Addr} {sl27 : Array (Option Value)}
    {f28 : Addr} {oc28 kV28 dc28 pm28 ct28 cd28 : Value} {od28 an28 : Option Addr} {sl28 : Array (Option Value)}
    {f29 : Addr} {oc29 kV29 dc29 pm29 ct29 cd29 : Value} {od29 an29 : Option Addr} {sl29 : Array (Option Value)}
    {f30 : Addr} {oc30 kV30 dc30 pm30 ct30 cd30 : Value} {od30 an30 : Option Addr} {sl30 : Array (Option Value)}
    {f31 : Addr} {oc31 kV31 dc31 pm31 ct31 cd31 : Value} {od31 an31 : Option Addr} {sl31 : Array (Option Value)}
    {f32 : Addr} {oc32 kV32 dc32 pm32 ct32 cd32 : Value} {od32 an32 : Option Addr} {sl32 : Array (Option Value)}
    {f33 : Addr} {oc33 kV33 dc33 pm33 ct33 cd33 : Value} {od33 an33 : Option Addr} {sl33 : Array (Option Value)}
    {f34 : Addr} {oc34 kV34 dc34 pm34 ct34 cd34 : Value} {od34 an34 : Option Addr} {sl34 : Array (Option Value)}
    {f35 : Addr} {oc35 kV35 dc35 pm35 ct35 cd35 : Value} {od35 an35 : Option Addr} {sl35 : Array (Option Value)}
    {f36 : Addr} {oc36 kV36 dc36 pm36 ct36 cd36 : Value} {od36 an36 : Option Addr} {sl36 : Array (Option Value)}
    {f37 : Addr} {oc37 kV37 dc37 pm37 ct37 cd37 : Value} {od37 an37 : Option Addr} {sl37 : Array (Option Value)}
    {f38 : Addr} {oc38 kV38 dc38 pm38 ct38 cd38 : Value} {od38 an38 : Option Addr} {sl38 : Array (Option Value)}
    {f39 : Addr} {oc39 kV39 dc39 pm39 ct39 cd39 : Value} {od39 an39 : Option Addr} {sl39 : Array (Option Value)}
    {f40 c40 P40 : Addr} {oc40 kV40 dc40 pm40 ct40 : Value} {od40 an40 : Option Addr} {sl40 : Array (Option Value)}
    {CB : Addr}
    {fm0 : Addr} {ocm0 kVm0 dcm0 pmm0 ctm0 cdm0 : Value} {odm0 anm0 : Option Addr} {slm0 : Array (Option Value)}
    {fm1 : Addr} {ocm1 kVm1 dcm1 pmm1 ctm1 cdm1 : Value} {odm1 anm1 : Option Addr} {slm1 : Array (Option Value)}
    {fm2 : Addr} {ocm2 kVm2 dcm2 pmm2 ctm2 cdm2 : Value} {odm2 anm2 : Option Addr} {slm2 : Array (Option Value)}
    {fm3 : Addr} {ocm3 kVm3 dcm3 pmm3 ctm3 cdm3 : Value} {odm3 anm3 : Option Addr} {slm3 : Array (Option Value)}
    {fm4 : Addr} {ocm4 kVm4 dcm4 pmm4 ctm4 cdm4 : Value} {odm4 anm4 : Option Addr} {slm4 : Array (Option Value)}
    {fm5 : Addr} {ocm5 kVm5 dcm5 pmm5 ctm5 cdm5 : Value} {odm5 anm5 : Option Addr} {slm5 : Array (Option Value)}
    {fm6 : Addr} {ocm6 kVm6 dcm6 pmm6 ctm6 cdm6 : Value} {odm6 anm6 : Option Addr} {slm6 : Array (Option Value)}
    {fm7 : Addr} {ocm7 kVm7 dcm7 pmm7 ctm7 cdm7 : Value} {odm7 anm7 : Option Addr} {slm7 : Array (Option Value)}
    {mt0 : Tok}
    {mt1 : Tok}
    {mt2 : Tok}
    {mt3 : Tok}
    {mt4 : Tok}
    {mt5 : Tok}
    {mt6 : Tok}
    {mt7 : Tok}
    {mt8 : Tok}
    {mt9 : Tok}
    {CO : Addr}
    {EBadRoom : Addr}
    {ENoPart : Addr}
    {IENoPart LENoPart DENoPart NENoPart : Addr} {nmENoPart qENoPart : Str} {bsENoPart subENoPart : List Value} {snENoPart : List Str} {abENoPart : Bool} {colENoPart : Option Bool} {ddENoPart : Option Addr} {m0ENoPart m1ENoPart m2ENoPart m3ENoPart m5ENoPart : Option Value}
    {oiENoPart kiENoPart diENoPart piENoPart tiENoPart ciENoPart giENoPart : Value} {xiENoPart yiENoPart ziENoPart wiENoPart : Option Addr} {siENoPart riENoPart hiENoPart : Array (Option Value)} {viENoPart : Array Value} {fiENoPart : Str} {uiENoPart : Tok}
    {tFL : Tok}
    {aO : Addr} {dOP : Option Addr} {tp0 tp1 tp2 tp3 tp4 tp5 : Tok} {nOP : Nat} {slOP : Array (Option Value)}
    {aW : Addr} {esW : Array DictEntry} {nWD : Nat} {vW : Value}
    (KX : K.In h) (G : h.Ns mainGlobals mg) (hfa : mg "law" = some (.ref fa)) (n63 : n ≤ 63)
    (a0 : PySem.W.nsIn K mainGlobals "is_whole" = some (some (.ref f0)))
    (l0 : K.lookup f0 = some ⟨oc0, od0, .func (PySem.W.fnOf "is_whole" "is_whole" (defArgs s_is_whole) (defBody s_is_whole) (defScope s_is_whole) .none kV0 dc0 pm0 an0 cd0 ct0), sl0⟩)
    (c0d : PySem.W.codeIn K cd0 "is_whole" = true)
    (k0 : PySem.W.keepIn K (.ref f0) = true)
    (a1 : PySem.W.nsIn K mainGlobals "are_numbers" = some (some (.ref f1)))
    (l1 : K.lookup f1 = some ⟨oc1, od1, .func (PySem.W.fnOf "are_numbers" "are_numbers" (defArgs s_are_numbers) (defBody s_are_numbers) (defScope s_are_numbers) .none kV1 dc1 pm1 an1 cd1 ct1), sl1⟩)
    (c1d : PySem.W.codeIn K cd1 "are_numbers" = true)
    (k1 : PySem.W.keepIn K (.ref f1) = true)
    (a2 : PySem.W.nsIn K mainGlobals "is_tuple" = some (some (.ref f2)))
    (l2 : K.lookup f2 = some ⟨oc2, od2, .func (PySem.W.fnOf "is_tuple" "is_tuple" (defArgs s_is_tuple) (defBody s_is_tuple) (defScope s_is_tuple) .none kV2 dc2 pm2 an2 cd2 ct2), sl2⟩)
    (c2d : PySem.W.codeIn K cd2 "is_tuple" = true)
    (k2 : PySem.W.keepIn K (.ref f2) = true)
    (a3 : PySem.W.nsIn K mainGlobals "good_name" = some (some (.ref f3)))
    (l3 : K.lookup f3 = some ⟨oc3, od3, .func (PySem.W.fnOf "good_name" "good_name" (defArgs s_good_name) (defBody s_good_name) (defScope s_good_name) .none kV3 dc3 pm3 an3 cd3 ct3), sl3⟩)
    (c3d : PySem.W.codeIn K cd3 "good_name" = true)
    (k3 : PySem.W.keepIn K (.ref f3) = true)
    (a4 : PySem.W.nsIn K mainGlobals "all_unlike" = some (some (.ref f4)))
    (l4 : K.lookup f4 = some ⟨oc4, od4, .func (PySem.W.fnOf "all_unlike" "all_unlike" (defArgs s_all_unlike) (defBody s_all_unlike) (defScope s_all_unlike) .none kV4 dc4 pm4 an4 cd4 ct4), sl4⟩)
    (c4d : PySem.W.codeIn K cd4 "all_unlike" = true)
    (k4 : PySem.W.keepIn K (.ref f4) = true)
    (a5 : PySem.W.nsIn K mainGlobals "children" = some (some (.ref f5)))
    (l5 : K.lookup f5 = some ⟨oc5, od5, .func (PySem.W.fnOf "children" "children" (defArgs s_children) (defBody s_children) (defScope s_children) .none kV5 dc5 pm5 an5 cd5 ct5), sl5⟩)
    (c5d : PySem.W.codeIn K cd5 "children" = true)
    (k5 : PySem.W.keepIn K (.ref f5) = true)
    (a6 : PySem.W.nsIn K mainGlobals "nodes_in" = some (some (.ref f6)))
    (l6 : K.lookup f6 = some ⟨oc6, od6, .func (PySem.W.fnOf "nodes_in" "nodes_in" (defArgs s_nodes_in) (defBody s_nodes_in) (defScope s_nodes_in) .none kV6 dc6 pm6 an6 cd6 ct6), sl6⟩)
    (c6d : PySem.W.codeIn K cd6 "nodes_in" = true)
    (k6 : PySem.W.keepIn K (.ref f6) = true)
    (a7 : PySem.W.nsIn K mainGlobals "parts_of" = some (some (.ref f7)))
    (l7 : K.lookup f7 = some ⟨oc7, od7, .func (PySem.W.fnOf "parts_of" "parts_of" (defArgs s_parts_of) (defBody s_parts_of) (defScope s_parts_of) .none kV7 dc7 pm7 an7 cd7 ct7), sl7⟩)
    (c7d : PySem.W.codeIn K cd7 "parts_of" = true)
    (k7 : PySem.W.keepIn K (.ref f7) = true)
    (a8 : PySem.W.nsIn K mainGlobals "part_called" = some (some (.ref f8)))
    (l8 : K.lookup f8 = some ⟨oc8, od8, .func (PySem.W.fnOf "part_called" "part_called" (defArgs s_part_called) (defBody s_part_called) (defScope s_part_called) .none kV8 dc8 pm8 an8 cd8 ct8), sl8⟩)
    (c8d : PySem.W.codeIn K cd8 "part_called" = true)
    (k8 : PySem.W.keepIn K (.ref f8) = true)
    (a9 : PySem.W.nsIn K mainGlobals "is_known_name" = some (some (.ref f9)))
    (l9 : K.lookup f9 = some ⟨oc9, od9, .func (PySem.W.fnOf "is_known_name" "is_known_name" (defArgs s_is_known_name) (defBody s_is_known_name) (defScope s_is_known_name) .none kV9 dc9 pm9 an9 cd9 ct9), sl9⟩)
    (c9d : PySem.W.codeIn K cd9 "is_known_name" = true)
    (k9 : PySem.W.keepIn K (.ref f9) = true)
    (a10 : PySem.W.nsIn K mainGlobals "are_imports" = some (some (.ref f10)))
    (l10 : K.lookup f10 = some ⟨oc10, od10, .func (PySem.W.fnOf "are_imports" "are_imports" (defArgs s_are_imports) (defBody s_are_imports) (defScope s_are_imports) .none kV10 dc10 pm10 an10 cd10 ct10), sl10⟩)
    (c10d : PySem.W.codeIn K cd10 "are_imports" = true)
    (k10 : PySem.W.keepIn K (.ref f10) = true)
    (a11 : PySem.W.nsIn K mainGlobals "is_block" = some (some (.ref f11)))
    (l11 : K.lookup f11 = some ⟨oc11, od11, .func (PySem.W.fnOf "is_block" "is_block" (defArgs s_is_block) (defBody s_is_block) (defScope s_is_block) .none kV11 dc11 pm11 an11 cd11 ct11), sl11⟩)
    (c11d : PySem.W.codeIn K cd11 "is_block" = true)
    (k11 : PySem.W.keepIn K (.ref f11) = true)
    (a12 : PySem.W.nsIn K mainGlobals "are_blocks" = some (some (.ref f12)))
    (l12 : K.lookup f12 = some ⟨oc12, od12, .func (PySem.W.fnOf "are_blocks" "are_blocks" (defArgs s_are_blocks) (defBody s_are_blocks) (defScope s_are_blocks) .none kV12 dc12 pm12 an12 cd12 ct12), sl12⟩)
    (c12d : PySem.W.codeIn K cd12 "are_blocks" = true)
    (k12 : PySem.W.keepIn K (.ref f12) = true)
    (a13 : PySem.W.nsIn K mainGlobals "is_function_head" = some (some (.ref f13)))
    (l13 : K.lookup f13 = some ⟨oc13, od13, .func (PySem.W.fnOf "is_function_head" "is_function_head" (defArgs s_is_function_head) (defBody s_is_function_head) (defScope s_is_function_head) .none kV13 dc13 pm13 an13 cd13 ct13), sl13⟩)
    (c13d : PySem.W.codeIn K cd13 "is_function_head" = true)
    (k13 : PySem.W.keepIn K (.ref f13) = true)
    (a14 : PySem.W.nsIn K mainGlobals "is_door_head" = some (some (.ref f14)))
    (l14 : K.lookup f14 = some ⟨oc14, od14, .func (PySem.W.fnOf "is_door_head" "is_door_head" (defArgs s_is_door_head) (defBody s_is_door_head) (defScope s_is_door_head) .none kV14 dc14 pm14 an14 cd14 ct14), sl14⟩)
    (c14d : PySem.W.codeIn K cd14 "is_door_head" = true)
    (k14 : PySem.W.keepIn K (.ref f14) = true)
    (a15 : PySem.W.nsIn K mainGlobals "are_heads" = some (some (.ref f15)))
    (l15 : K.lookup f15 = some ⟨oc15, od15, .func (PySem.W.fnOf "are_heads" "are_heads" (defArgs s_are_heads) (defBody s_are_heads) (defScope s_are_heads) .none kV15 dc15 pm15 an15 cd15 ct15), sl15⟩)
    (c15d : PySem.W.codeIn K cd15 "are_heads" = true)
    (k15 : PySem.W.keepIn K (.ref f15) = true)
    (a16 : PySem.W.nsIn K mainGlobals "is_room_with" = some (some (.ref f16)))
    (l16 : K.lookup f16 = some ⟨oc16, od16, .func (PySem.W.fnOf "is_room_with" "is_room_with" (defArgs s_is_room_with) (defBody s_is_room_with) (defScope s_is_room_with) .none kV16 dc16 pm16 an16 cd16 ct16), sl16⟩)
    (c16d : PySem.W.codeIn K cd16 "is_room_with" = true)
    (k16 : PySem.W.keepIn K (.ref f16) = true)
    (a17 : PySem.W.nsIn K mainGlobals "good_room" = some (some (.ref f17)))
    (l17 : K.lookup f17 = some ⟨oc17, od17, .func (PySem.W.fnOf "good_room" "good_room" (defArgs s_good_room) (defBody s_good_room) (defScope s_good_room) .none kV17 dc17 pm17 an17 cd17 ct17), sl17⟩)
    (c17d : PySem.W.codeIn K cd17 "good_room" = true)
    (k17 : PySem.W.keepIn K (.ref f17) = true)
    (a18 : PySem.W.nsIn K mainGlobals "need_room" = some (some (.ref f18)))
    (l18 : K.lookup f18 = some ⟨oc18, od18, .func (PySem.W.fnOf "need_room" "need_room" (defArgs s_need_room) (defBody s_need_room) (defScope s_need_room) .none kV18 dc18 pm18 an18 cd18 ct18), sl18⟩)
    (c18d : PySem.W.codeIn K cd18 "need_room" = true)
    (k18 : PySem.W.keepIn K (.ref f18) = true)
    (a19 : PySem.W.nsIn K mainGlobals "is_room" = some (some (.ref f19)))
    (l19 : K.lookup f19 = some ⟨oc19, od19, .func (PySem.W.fnOf "is_room" "is_room" (defArgs s_is_room) (defBody s_is_room) (defScope s_is_room) .none kV19 dc19 pm19 an19 cd19 ct19), sl19⟩)
    (c19d : PySem.W.codeIn K cd19 "is_room" = true)
    (k19 : PySem.W.keepIn K (.ref f19) = true)
    (a20 : PySem.W.nsIn K mainGlobals "need_part" = some (some (.ref f20)))
    (l20 : K.lookup f20 = some ⟨oc20, od20, .func (PySem.W.fnOf "need_part" "need_part" (defArgs s_need_part) (defBody s_need_part) (defScope s_need_part) .none kV20 dc20 pm20 an20 cd20 ct20), sl20⟩)
    (c20d : PySem.W.codeIn K cd20 "need_part" = true)
    (k20 : PySem.W.keepIn K (.ref f20) = true)
    (a21 : PySem.W.nsIn K mainGlobals "run_names" = some (some (.ref f21)))
    (l21 : K.lookup f21 = some ⟨oc21, od21, .func (PySem.W.fnOf "run_names" "run_names" (defArgs s_run_names) (defBody s_run_names) (defScope s_run_names) .none kV21 dc21 pm21 an21 cd21 ct21), sl21⟩)
    (c21d : PySem.W.codeIn K cd21 "run_names" = true)
    (k21 : PySem.W.keepIn K (.ref f21) = true)
    (a22 : PySem.W.nsIn K mainGlobals "runs_of" = some (some (.ref f22)))
    (l22 : K.lookup f22 = some ⟨oc22, od22, .func (PySem.W.fnOf "runs_of" "runs_of" (defArgs s_runs_of) (defBody s_runs_of) (defScope s_runs_of) .none kV22 dc22 pm22 an22 cd22 ct22), sl22⟩)
    (c22d : PySem.W.codeIn K cd22 "runs_of" = true)
    (k22 : PySem.W.keepIn K (.ref f22) = true)
    (a23 : PySem.W.nsIn K mainGlobals "asks_of" = some (some (.ref f23)))
    (l23 : K.lookup f23 = some ⟨oc23, od23, .func (PySem.W.fnOf "asks_of" "asks_of" (defArgs s_asks_of) (defBody s_asks_of) (defScope s_asks_of) .none kV23 dc23 pm23 an23 cd23 ct23), sl23⟩)
    (c23d : PySem.W.codeIn K cd23 "asks_of" = true)
    (k23 : PySem.W.keepIn K (.ref f23) = true)
    (a24 : PySem.W.nsIn K mainGlobals "_law_begun" = some (some (.ref f24)))
    (l24 : K.lookup f24 = some ⟨oc24, od24, .func (PySem.W.fnOf "_law_begun" "_law_begun" (defArgs s__law_begun) (defBody s__law_begun) (defScope s__law_begun) .none kV24 dc24 pm24 an24 cd24 ct24), sl24⟩)
    (c24d : PySem.W.codeIn K cd24 "_law_begun" = true)
    (k24 : PySem.W.keepIn K (.ref f24) = true)
    (a25 : PySem.W.nsIn K mainGlobals "_law_mixed" = some (some (.ref f25)))
    (l25 : K.lookup f25 = some ⟨oc25, od25, .func (PySem.W.fnOf "_law_mixed" "_law_mixed" (defArgs s__law_mixed) (defBody s__law_mixed) (defScope s__law_mixed) .none kV25 dc25 pm25 an25 cd25 ct25), sl25⟩)
    (c25d : PySem.W.codeIn K cd25 "_law_mixed" = true)
    (k25 : PySem.W.keepIn K (.ref f25) = true)
    (a26 : PySem.W.nsIn K mainGlobals "_law_draw" = some (some (.ref f26)))
    (l26 : K.lookup f26 = some ⟨oc26, od26, .func (PySem.W.fnOf "_law_draw" "_law_draw" (defArgs s__law_draw) (defBody s__law_draw) (defScope s__law_draw) .none kV26 dc26 pm26 an26 cd26 ct26), sl26⟩)
    (c26d : PySem.W.codeIn K cd26 "_law_draw" = true)
    (k26 : PySem.W.keepIn K (.ref f26) = true)
    (a27 : PySem.W.nsIn K mainGlobals "_law_pick" = some (some (.ref f27)))
    (l27 : K.lookup f27 = some ⟨oc27, od27, .func (PySem.W.fnOf "_law_pick" "_law_pick" (defArgs s__law_pick) (defBody s__law_pick) (defScope s__law_pick) .none kV27 dc27 pm27 an27 cd27 ct27), sl27⟩)
    (c27d : PySem.W.codeIn K cd27 "_law_pick" = true)
    (k27 : PySem.W.keepIn K (.ref f27) = true)
    (a28 : PySem.W.nsIn K mainGlobals "_law_shuffled" = some (some (.ref f28)))
    (l28 : K.lookup f28 = some ⟨oc28, od28, .func (PySem.W.fnOf "_law_shuffled" "_law_shuffled" (defArgs s__law_shuffled) (defBody s__law_shuffled) (defScope s__law_shuffled) .none kV28 dc28 pm28 an28 cd28 ct28), sl28⟩)
    (c28d : PySem.W.codeIn K cd28 "_law_shuffled" = true)
    (k28 : PySem.W.keepIn K (.ref f28) = true)
    (a29 : PySem.W.nsIn K mainGlobals "_law_small" = some (some (.ref f29)))
    (l29 : K.lookup f29 = some ⟨oc29, od29, .func (PySem.W.fnOf "_law_small" "_law_small" (defArgs s__law_small) (defBody s__law_small) (defScope s__law_small) .none kV29 dc29 pm29 an29 cd29 ct29), sl29⟩)
    (c29d : PySem.W.codeIn K cd29 "_law_small" = true)
    (k29 : PySem.W.keepIn K (.ref f29) = true)
    (a30 : PySem.W.nsIn K mainGlobals "_law_caught" = some (some (.ref f30)))
    (l30 : K.lookup f30 = some ⟨oc30, od30, .func (PySem.W.fnOf "_law_caught" "_law_caught" (defArgs s__law_caught) (defBody s__law_caught) (defScope s__law_caught) .none kV30 dc30 pm30 an30 cd30 ct30), sl30⟩)
    (c30d : PySem.W.codeIn K cd30 "_law_caught" = true)
    (k30 : PySem.W.keepIn K (.ref f30) = true)
    (a31 : PySem.W.nsIn K mainGlobals "_law_signs_of" = some (some (.ref f31)))
    (l31 : K.lookup f31 = some ⟨oc31, od31, .func (PySem.W.fnOf "_law_signs_of" "_law_signs_of" (defArgs s__law_signs_of) (defBody s__law_signs_of) (defScope s__law_signs_of) .none kV31 dc31 pm31 an31 cd31 ct31), sl31⟩)
    (c31d : PySem.W.codeIn K cd31 "_law_signs_of" = true)
    (k31 : PySem.W.keepIn K (.ref f31) = true)
    (a32 : PySem.W.nsIn K mainGlobals "_law_inner_of" = some (some (.ref f32)))
    (l32 : K.lookup f32 = some ⟨oc32, od32, .func (PySem.W.fnOf "_law_inner_of" "_law_inner_of" (defArgs s__law_inner_of) (defBody s__law_inner_of) (defScope s__law_inner_of) .none kV32 dc32 pm32 an32 cd32 ct32), sl32⟩)
    (c32d : PySem.W.codeIn K cd32 "_law_inner_of" = true)
    (k32 : PySem.W.keepIn K (.ref f32) = true)
    (a33 : PySem.W.nsIn K mainGlobals "_law_reading" = some (some (.ref f33)))
    (l33 : K.lookup f33 = some ⟨oc33, od33, .func (PySem.W.fnOf "_law_reading" "_law_reading" (defArgs s__law_reading) (defBody s__law_reading) (defScope s__law_reading) .none kV33 dc33 pm33 an33 cd33 ct33), sl33⟩)
    (c33d : PySem.W.codeIn K cd33 "_law_reading" = true)
    (k33 : PySem.W.keepIn K (.ref f33) = true)
    (a34 : PySem.W.nsIn K mainGlobals "_law_bodies" = some (some (.ref f34)))
    (l34 : K.lookup f34 = some ⟨oc34, od34, .func (PySem.W.fnOf "_law_bodies" "_law_bodies" (defArgs s__law_bodies) (defBody s__law_bodies) (defScope s__law_bodies) .none kV34 dc34 pm34 an34 cd34 ct34), sl34⟩)
    (c34d : PySem.W.codeIn K cd34 "_law_bodies" = true)
    (k34 : PySem.W.keepIn K (.ref f34) = true)
    (a35 : PySem.W.nsIn K mainGlobals "_law_mixed_value" = some (some (.ref f35)))
    (l35 : K.lookup f35 = some ⟨oc35, od35, .func (PySem.W.fnOf "_law_mixed_value" "_law_mixed_value" (defArgs s__law_mixed_value) (defBody s__law_mixed_value) (defScope s__law_mixed_value) .none kV35 dc35 pm35 an35 cd35 ct35), sl35⟩)
    (c35d : PySem.W.codeIn K cd35 "_law_mixed_value" = true)
    (k35 : PySem.W.keepIn K (.ref f35) = true)
    (a36 : PySem.W.nsIn K mainGlobals "_law_mixed_body" = some (some (.ref f36)))
    (l36 : K.lookup f36 = some ⟨oc36, od36, .func (PySem.W.fnOf "_law_mixed_body" "_law_mixed_body" (defArgs s__law_mixed_body) (defBody s__law_mixed_body) (defScope s__law_mixed_body) .none kV36 dc36 pm36 an36 cd36 ct36), sl36⟩)
    (c36d : PySem.W.codeIn K cd36 "_law_mixed_body" = true)
    (k36 : PySem.W.keepIn K (.ref f36) = true)
    (a37 : PySem.W.nsIn K mainGlobals "_law_runner_room" = some (some (.ref f37)))
    (l37 : K.lookup f37 = some ⟨oc37, od37, .func (PySem.W.fnOf "_law_runner_room" "_law_runner_room" (defArgs s__law_runner_room) (defBody s__law_runner_room) (defScope s__law_runner_room) .none kV37 dc37 pm37 an37 cd37 ct37), sl37⟩)
    (c37d : PySem.W.codeIn K cd37 "_law_runner_room" = true)
    (k37 : PySem.W.keepIn K (.ref f37) = true)
    (a38 : PySem.W.nsIn K mainGlobals "_law_led_to" = some (some (.ref f38)))
    (l38 : K.lookup f38 = some ⟨oc38, od38, .func (PySem.W.fnOf "_law_led_to" "_law_led_to" (defArgs s__law_led_to) (defBody s__law_led_to) (defScope s__law_led_to) .none kV38 dc38 pm38 an38 cd38 ct38), sl38⟩)
    (c38d : PySem.W.codeIn K cd38 "_law_led_to" = true)
    (k38 : PySem.W.keepIn K (.ref f38) = true)
    (a39 : PySem.W.nsIn K mainGlobals "_law_asked_in" = some (some (.ref f39)))
    (l39 : K.lookup f39 = some ⟨oc39, od39, .func (PySem.W.fnOf "_law_asked_in" "_law_asked_in" (defArgs s__law_asked_in) (defBody s__law_asked_in) (defScope s__law_asked_in) .none kV39 dc39 pm39 an39 cd39 ct39), sl39⟩)
    (c39d : PySem.W.codeIn K cd39 "_law_asked_in" = true)
    (k39 : PySem.W.keepIn K (.ref f39) = true)
    (a40 : PySem.W.nsIn K mainGlobals "law" = some (some (.ref f40)))
    (l40 : K.lookup f40 = some ⟨oc40, od40, .func (PySem.W.fnOf "law" "law" (defArgs s_law) (defBody s_law) (defScope s_law) .none kV40 dc40 pm40 an40 (.ref c40) ct40), sl40⟩)
    (c40d : PySem.W.codeIn K (.ref c40) "law" = true)
    (k40 : PySem.W.keepIn K (.ref f40) = true)
    (gCB : PySem.W.nsIn K mainGlobals "BodyCheck" = some (some (.ref CB)))
    (pgCB : PySem.W.plainGet K CB Str.empty = true)
    (hdCB : PySem.W.hasDictIn K CB = true)
    (poCB : PySem.W.plainOver K CB = true)
    (saCB : PySem.W.findIn K (.ref CB) "__setattr__" = some (some (.builtin "object.__setattr__")))
    (mkCB : PySem.W.makesIn K CB = true)
    (kcCB : PySem.W.keepIn K (.ref CB) = true)
    (nCB_imports : PySem.W.findIn K (.ref CB) "imports" = some none)
    (nCB_blocks : PySem.W.findIn K (.ref CB) "blocks" = some none)
    (nCB_names : PySem.W.findIn K (.ref CB) "names" = some none)
    (nCB_params : PySem.W.findIn K (.ref CB) "params" = some none)
    (im0 : PySem.W.findIn K (.ref CB) "__init__" = some (some (.ref fm0)))
    (ym0 : PySem.W.isFn K (.ref fm0) = true)
    (lm0 : K.lookup fm0 = some ⟨ocm0, odm0, .func (PySem.W.fnOf "__init__" "BodyCheck.__init__" (defArgs s_BodyCheck___init__) (defBody s_BodyCheck___init__) (defScope s_BodyCheck___init__) .none kVm0 dcm0 pmm0 anm0 cdm0 ctm0), slm0⟩)
    (cm0d : PySem.W.codeIn K cdm0 "BodyCheck.__init__" = true)
    (km0 : PySem.W.keepIn K (.ref fm0) = true)
    (im1 : PySem.W.findIn K (.ref CB) "allow" = some (some (.ref fm1)))
    (ym1 : PySem.W.isFn K (.ref fm1) = true)
    (lm1 : K.lookup fm1 = some ⟨ocm1, odm1, .func (PySem.W.fnOf "allow" "BodyCheck.allow" (defArgs s_BodyCheck_allow) (defBody s_BodyCheck_allow) (defScope s_BodyCheck_allow) .none kVm1 dcm1 pmm1 anm1 cdm1 ctm1), slm1⟩)
    (cm1d : PySem.W.codeIn K cdm1 "BodyCheck.allow" = true)
    (km1 : PySem.W.keepIn K (.ref fm1) = true)
    (im2 : PySem.W.findIn K (.ref CB) "has_block" = some (some (.ref fm2)))
    (ym2 : PySem.W.isFn K (.ref fm2) = true)
    (lm2 : K.lookup fm2 = some ⟨ocm2, odm2, .func (PySem.W.fnOf "has_block" "BodyCheck.has_block" (defArgs s_BodyCheck_has_block) (defBody s_BodyCheck_has_block) (defScope s_BodyCheck_has_block) .none kVm2 dcm2 pmm2 anm2 cdm2 ctm2), slm2⟩)
    (cm2d : PySem.W.codeIn K cdm2 "BodyCheck.has_block" = true)
    (km2 : PySem.W.keepIn K (.ref fm2) = true)
    (im3 : PySem.W.findIn K (.ref CB) "has_params" = some (some (.ref fm3)))
    (ym3 : PySem.W.isFn K (.ref fm3) = true)
    (lm3 : K.lookup fm3 = some ⟨ocm3, odm3, .func (PySem.W.fnOf "has_params" "BodyCheck.has_params" (defArgs s_BodyCheck_has_params) (defBody s_BodyCheck_has_params) (defScope s_BodyCheck_has_params) .none kVm3 dcm3 pmm3 anm3 cdm3 ctm3), slm3⟩)
    (cm3d : PySem.W.codeIn K cdm3 "BodyCheck.has_params" = true)
    (km3 : PySem.W.keepIn K (.ref fm3) = true)
    (im4 : PySem.W.findIn K (.ref CB) "has_import" = some (some (.ref fm4)))
    (ym4 : PySem.W.isFn K (.ref fm4) = true)
    (lm4 : K.lookup fm4 = some ⟨ocm4, odm4, .func (PySem.W.fnOf "has_import" "BodyCheck.has_import" (defArgs s_BodyCheck_has_import) (defBody s_BodyCheck_has_import) (defScope s_BodyCheck_has_import) .none kVm4 dcm4 pmm4 anm4 cdm4 ctm4), slm4⟩)
    (cm4d : PySem.W.codeIn K cdm4 "BodyCheck.has_import" = true)
    (km4 : PySem.W.keepIn K (.ref fm4) = true)
    (im5 : PySem.W.findIn K (.ref CB) "left_value" = some (some (.ref fm5)))
    (ym5 : PySem.W.isFn K (.ref fm5) = true)
    (lm5 : K.lookup fm5 = some ⟨ocm5, odm5, .func (PySem.W.fnOf "left_value" "BodyCheck.left_value" (defArgs s_BodyCheck_left_value) (defBody s_BodyCheck_left_value) (defScope s_BodyCheck_left_value) .none kVm5 dcm5 pmm5 anm5 cdm5 ctm5), slm5⟩)
    (cm5d : PySem.W.codeIn K cdm5 "BodyCheck.left_value" = true)
    (km5 : PySem.W.keepIn K (.ref fm5) = true)
    (im6 : PySem.W.findIn K (.ref CB) "left_behind" = some (some (.ref fm6)))
    (ym6 : PySem.W.isFn K (.ref fm6) = true)
    (lm6 : K.lookup fm6 = some ⟨ocm6, odm6, .func (PySem.W.fnOf "left_behind" "BodyCheck.left_behind" (defArgs s_BodyCheck_left_behind) (defBody s_BodyCheck_left_behind) (defScope s_BodyCheck_left_behind) .none kVm6 dcm6 pmm6 anm6 cdm6 ctm6), slm6⟩)
    (cm6d : PySem.W.codeIn K cdm6 "BodyCheck.left_behind" = true)
    (km6 : PySem.W.keepIn K (.ref fm6) = true)
    (im7 : PySem.W.findIn K (.ref CB) "is_part_body" = some (some (.ref fm7)))
    (ym7 : PySem.W.isFn K (.ref fm7) = true)
    (lm7 : K.lookup fm7 = some ⟨ocm7, odm7, .func (PySem.W.fnOf "is_part_body" "BodyCheck.is_part_body" (defArgs s_BodyCheck_is_part_body) (defBody s_BodyCheck_is_part_body) (defScope s_BodyCheck_is_part_body) .none kVm7 dcm7 pmm7 anm7 cdm7 ctm7), slm7⟩)
    (cm7d : PySem.W.codeIn K cdm7 "BodyCheck.is_part_body" = true)
    (km7 : PySem.W.keepIn K (.ref fm7) = true)
    (z_isinstance : PySem.W.nsIn K mainGlobals "isinstance" = some none)
    (z_int : PySem.W.nsIn K mainGlobals "int" = some none)
    (z_bool : PySem.W.nsIn K mainGlobals "bool" = some none)
    (z_tuple : PySem.W.nsIn K mainGlobals "tuple" = some none)
    (z_str : PySem.W.nsIn K mainGlobals "str" = some none)
    (z_len : PySem.W.nsIn K mainGlobals "len" = some none)
    (z_all : PySem.W.nsIn K mainGlobals "all" = some none)
    (z_list : PySem.W.nsIn K mainGlobals "list" = some none)
    (z_abs : PySem.W.nsIn K mainGlobals "abs" = some none)
    (z_range : PySem.W.nsIn K mainGlobals "range" = some none)
    (z_zip : PySem.W.nsIn K mainGlobals "zip" = some none)
    (z_sorted : PySem.W.nsIn K mainGlobals "sorted" = some none)
    (z_repr : PySem.W.nsIn K mainGlobals "repr" = some none)
    (z_min : PySem.W.nsIn K mainGlobals "min" = some none)
    (z_set : PySem.W.nsIn K mainGlobals "set" = some none)
    (z_dict : PySem.W.nsIn K mainGlobals "dict" = some none)
    (cst0 : PySem.W.nsIn K mainGlobals "MODULUS" = some (some (.int 10000 mt0)))
    (cst1 : PySem.W.nsIn K mainGlobals "MOST_IMPORTS" = some (some (.int 8 mt1)))
    (cst2 : PySem.W.nsIn K mainGlobals "MOST_DOORS" = some (some (.int 6 mt2)))
    (cst3 : PySem.W.nsIn K mainGlobals "MOST_NODES" = some (some (.int 200 mt3)))
    (cst4 : PySem.W.nsIn K mainGlobals "MOST_DEPTH" = some (some (.int 12 mt4)))
    (cst5 : PySem.W.nsIn K mainGlobals "MOST_BLOCKS" = some (some (.int 6 mt5)))
    (cst6 : PySem.W.nsIn K mainGlobals "MOST_VALUES" = some (some (.int 400 mt6)))
    (cst7 : PySem.W.nsIn K mainGlobals "MOST_FUNCTIONS" = some (some (.int 6 mt7)))
    (cst8 : PySem.W.nsIn K mainGlobals "MOST_PARAMS" = some (some (.int 4 mt8)))
    (cst9 : PySem.W.nsIn K mainGlobals "MOST_SIZE" = some (some (.int 10000 mt9)))
    (gCO : PySem.W.nsIn K mainGlobals "OwnharmError" = some (some (.ref CO)))
    (v1 : PySem.W.specialIn K (.builtin "object.__class__") "__get__" = some (some (.builtin "getset_descriptor.__get__")))
    (v2 : PySem.W.takesIn K (.builtin "object.__class__") = some true)
    (gEBadRoom : PySem.W.nsIn K mainGlobals "BadRoom" = some (some (.ref EBadRoom)))
    (xEBadRoom : PySem.W.excIn K EBadRoom [.type "ValueError", .type "Exception", .type "BaseException", .type "object"] "ValueError.__new__" = true)
    (kEBadRoom : PySem.W.keepIn K (.ref EBadRoom) = true)
    (gENoPart : PySem.W.nsIn K mainGlobals "NoPart" = some (some (.ref ENoPart)))
    (bEBadRoom : PySem.W.subIn K (.ref EBadRoom) (.type "BaseException") = some true)
    (tEBadRoom : PySem.W.typeIn K (.ref EBadRoom) = some (.type "type"))
    (u1EBadRoom : PySem.W.findIn K (.ref EBadRoom) "__getattribute__" = some (some (.builtin "BaseException.__getattribute__")))
    (u2EBadRoom : PySem.W.findIn K (.ref EBadRoom) "__getattr__" = some none)
    (u3EBadRoom : PySem.W.hasDictIn K EBadRoom = true)
    (u4EBadRoom : PySem.W.findIn K (.ref EBadRoom) "__class__" = some (some (.builtin "object.__class__")))
    (u5EBadRoom : PySem.W.mroIn K EBadRoom (.type "object") = some true)
    (iEBadRoom : PySem.W.kitOne K (.ref EBadRoom) (.ref EBadRoom) = some true)
    (eEBadRoom : PySem.W.exmOne K (.ref EBadRoom) (.ref CO) = some true)
    (bENoPart : PySem.W.subIn K (.ref ENoPart) (.type "BaseException") = some true)
    (tENoPart : PySem.W.typeIn K (.ref ENoPart) = some (.type "type"))
    (u1ENoPart : PySem.W.findIn K (.ref ENoPart) "__getattribute__" = some (some (.builtin "BaseException.__getattribute__")))
    (u2ENoPart : PySem.W.findIn K (.ref ENoPart) "__getattr__" = some none)
    (u3ENoPart : PySem.W.hasDictIn K ENoPart = true)
    (u4ENoPart : PySem.W.findIn K (.ref ENoPart) "__class__" = some (some (.builtin "object.__class__")))
    (u5ENoPart : PySem.W.mroIn K ENoPart (.type "object") = some true)
    (iENoPart : PySem.W.kitOne K (.ref ENoPart) (.ref ENoPart) = some true)
    (eENoPart : PySem.W.exmOne K (.ref ENoPart) (.ref CO) = some true)
    (zS : PySem.W.nsIn K mainGlobals "super" = some none)
    (zT : PySem.W.nsIn K PySem.cStatics "thirdparty.any" = some none)
    (zP : (l.prog.main.scope.names.lookup ("super" : Str)).isSome = false)
    (xENoPart : K.lookup ENoPart = some (excClassObj nmENoPart qENoPart ENoPart NENoPart bsENoPart [.ref CO, .type "ValueError", .type "Exception", .type "BaseException", .type "object"] true snENoPart subENoPart abENoPart colENoPart ddENoPart m0ENoPart m1ENoPart m2ENoPart m3ENoPart m5ENoPart "ValueError.__new__"))
    (kENoPart : PySem.W.keepIn K (.ref ENoPart) = true)
    (j1ENoPart : PySem.W.findIn K (.ref ENoPart) "__setattr__" = some (some (.builtin "object.__setattr__")))
    (j2ENoPart : PySem.W.ks_superIn K ENoPart ENoPart "__init__" = some (some (.builtin "ValueError.__init__")))
    (j3ENoPart : PySem.W.subIn K (.ref ENoPart) (.type "ValueError") = some true)
    (j4ENoPart : PySem.W.mroIn K ENoPart (.ref ENoPart) = some true)
    (j5ENoPart_part : PySem.W.findIn K (.ref ENoPart) "part" = some none)
    (j6ENoPart : PySem.W.findIn K (.ref ENoPart) "__init__" = some (some (.ref IENoPart)))
    (j7ENoPart : PySem.W.typeIn K (.ref IENoPart) = some (.type "function"))
    (lENoPart : K.lookup IENoPart = some ⟨oiENoPart, xiENoPart, .func (PySem.W.ksFn "__init__" "NoPart.__init__" (defArgs s_NoPart___init__) (defBody s_NoPart___init__) (defScope s_NoPart___init__) .none kiENoPart diENoPart piENoPart yiENoPart (.ref DENoPart) tiENoPart LENoPart), siENoPart⟩)
    (cENoPart : PySem.W.codeIn K (.ref DENoPart) "NoPart.__init__" = true)
    (wENoPart : PySem.W.keepIn K (.ref IENoPart) = true)
    (nENoPart : K.lookup LENoPart = some ⟨ciENoPart, ziENoPart, .cell (some (.ref ENoPart)), riENoPart⟩)
    (dENoPart : K.lookup DENoPart = some ⟨giENoPart, wiENoPart, .fields viENoPart, hiENoPart⟩)
    (sENoPart : viENoPart[2]? = some (.str fiENoPart uiENoPart))
    (rENoPart : ((l.prog.main.file : Str) == fiENoPart) = true)
    (gFAIL : PySem.W.nsIn K mainGlobals "FAILED" = some (some (.int (-1) tFL)))
    (aOPS : PySem.W.nsIn K mainGlobals "OPERATORS" = some (some (.ref aO)))
    (lOPS : K.lookup aO = some ⟨.type "tuple", dOP, .seq #[.str "plus" tp0, .str "minus" tp1, .str "times" tp2, .str "rest" tp3, .str "less" tp4, .str "same" tp5] nOP, slOP⟩)
    (aWDS : PySem.W.nsIn K mainGlobals "WORDS" = some (some (.ref aW)))
    (lWDS : K.lookup aW = some ⟨.type "dict", none, .dict esW nWD, #[]⟩)
    (lowW : (aW == sysModules) = false)
    (ekW : KeysAre esW.toList wordsL)
    (rW0 : PySem.W.nsIn K aW "block" = some (some vW))
    (rW1 : PySem.W.nsIn K aW "depth" = some (some vW))
    (rW2 : PySem.W.nsIn K aW "door" = some (some vW))
    (rW3 : PySem.W.nsIn K aW "else" = some (some vW))
    (rW4 : PySem.W.nsIn K aW "function" = some (some vW))
    (rW5 : PySem.W.nsIn K aW "give" = some (some vW))
    (rW6 : PySem.W.nsIn K aW "if" = some (some vW))
    (rW7 : PySem.W.nsIn K aW "rest" = some (some vW))
    (rW8 : PySem.W.nsIn K aW "room" = some (some vW))
    (rW9 : PySem.W.nsIn K aW "stop" = some (some vW))
    (rW10 : PySem.W.nsIn K aW "uses" = some (some vW))
    (rW11 : PySem.W.nsIn K aW "while" = some (some vW))
    (litW : PySem.W.KeysLit w.params esW.toList)
    (tH40 : PySem.W.codeHdIn K c40 P40 = true)
    (tN40 : K.lookup P40 = none)
    (tO40 : h.get? P40 = some { cls := .none, data := .fields #[] }) :
    LawAtG l w K 25 n "script" mg fa h := by
  have e := hfa.symm.trans (PySem.W.mg_of KX G a40)
  cases e
  have T : Txt K mg := ⟨PySem.W.mg_none_of KX G z_isinstance, PySem.W.mg_none_of KX G z_int, PySem.W.mg_none_of KX G z_bool, PySem.W.mg_none_of KX G z_tuple, PySem.W.mg_none_of KX G z_str, PySem.W.mg_none_of KX G z_len, PySem.W.mg_none_of KX G z_all, PySem.W.mg_none_of KX G z_list, PySem.W.mg_none_of KX G z_abs, PySem.W.mg_none_of KX G z_range, PySem.W.mg_none_of KX G z_zip, PySem.W.mg_none_of KX G z_sorted, PySem.W.mg_none_of KX G z_repr, ⟨_, PySem.W.mg_of KX G cst0⟩⟩
  have nMin := PySem.W.mg_none_of KX G z_min
  have nSet := PySem.W.mg_none_of KX G z_set
  have nDict := PySem.W.mg_none_of KX G z_dict
  have WD : Wd K w mg aW := wd_mk KX G aWDS lWDS lowW ekW litW rW0 rW1 rW2 rW3 rW4 rW5 rW6 rW7 rW8 rW9 rW10 rW11
  have TO : TxO K mg aO := ⟨⟨_, PySem.W.mg_of KX G gFAIL⟩, ⟨_, PySem.W.mg_of KX G cst4⟩, PySem.W.mg_of KX G aOPS, ops_mk lOPS⟩
  have F0 := fun_mk (st := s_is_whole) l0 c0d k0
  have b0 := F0.binds (ps := ["value", "low", "high"]) fun _ _ _ _ _ _ us hl => match us, hl with | [_, _, _], _ => rfl
  have g0 : mg "is_whole" = some (.ref f0) := PySem.W.mg_of KX G a0
  have F1 := fun_mk (st := s_are_numbers) l1 c1d k1
  have b1 := F1.binds (ps := ["values"]) fun _ _ _ _ _ _ us hl => match us, hl with | [_], _ => rfl
  have g1 : mg "are_numbers" = some (.ref f1) := PySem.W.mg_of KX G a1
  have F2 := fun_mk (st := s_is_tuple) l2 c2d k2
  have b2 := F2.binds (ps := ["value", "least", "most"]) fun _ _ _ _ _ _ us hl => match us, hl with | [_, _, _], _ => rfl
  have g2 : mg "is_tuple" = some (.ref f2) := PySem.W.mg_of KX G a2
  have F3 := fun_mk (st := s_good_name) l3 c3d k3
  have b3 := F3.binds (ps := ["value"]) fun _ _ _ _ _ _ us hl => match us, hl with | [_], _ => rfl
  have g3 : mg "good_name" = some (.ref f3) := PySem.W.mg_of KX G a3
  have F4 := fun_mk (st := s_all_unlike) l4 c4d k4
  have b4 := F4.binds (ps := ["things"]) fun _ _ _ _ _ _ us hl => match us, hl with | [_], _ => rfl
  have g4 : mg "all_unlike" = some (.ref f4) := PySem.W.mg_of KX G a4
  have F5 := fun_mk (st := s_children) l5 c5d k5
  have b5 := F5.binds (ps := ["node"]) fun _ _ _ _ _ _ us hl => match us, hl with | [_], _ => rfl
  have g5 : mg "children" = some (.ref f5) := PySem.W.mg_of KX G a5
  have F6 := fun_mk (st := s_nodes_in) l6 c6d k6
  have b6 := F6.binds (ps := ["body"]) fun _ _ _ _ _ _ us hl => match us, hl with | [_], _ => rfl
  have g6 : mg "nodes_in" = some (.ref f6) := PySem.W.mg_of KX G a6
  have F7 := fun_mk (st := s_parts_of) l7 c7d k7
  have b7 := F7.binds (ps := ["source"]) fun _ _ _ _ _ _ us hl => match us, hl with | [_], _ => rfl
  have g7 : mg "parts_of" = some (.ref f7) := PySem.W.mg_of KX G a7
  have F8 := fun_mk (st := s_part_called) l8 c8d k8
  have b8 := F8.binds (ps := ["source", "name"]) fun _ _ _ _ _ _ us hl => match us, hl with | [_, _], _ => rfl
  have g8 : mg "part_called" = some (.ref f8) := PySem.W.mg_of KX G a8
  have F9 := fun_mk (st := s_is_known_name) l9 c9d k9
  have b9 := F9.binds (ps := ["value", "names"]) fun _ _ _ _ _ _ us hl => match us, hl with | [_, _], _ => rfl
  have g9 : mg "is_known_name" = some (.ref f9) := PySem.W.mg_of KX G a9
  have F10 := fun_mk (st := s_are_imports) l10 c10d k10
  have b10 := F10.binds (ps := ["value", "own", "names"]) fun _ _ _ _ _ _ us hl => match us, hl with | [_, _, _], _ => rfl
  have g10 : mg "are_imports" = some (.ref f10) := PySem.W.mg_of KX G a10
  have F11 := fun_mk (st := s_is_block) l11 c11d k11
  have b11 := F11.binds (ps := ["value", "names"]) fun _ _ _ _ _ _ us hl => match us, hl with | [_, _], _ => rfl
  have g11 : mg "is_block" = some (.ref f11) := PySem.W.mg_of KX G a11
  have F12 := fun_mk (st := s_are_blocks) l12 c12d k12
  have b12 := F12.binds (ps := ["value", "names"]) fun _ _ _ _ _ _ us hl => match us, hl with | [_, _], _ => rfl
  have g12 : mg "are_blocks" = some (.ref f12) := PySem.W.mg_of KX G a12
  have F13 := fun_mk (st := s_is_function_head) l13 c13d k13
  have b13 := F13.binds (ps := ["value", "names"]) fun _ _ _ _ _ _ us hl => match us, hl with | [_, _], _ => rfl
  have g13 : mg "is_function_head" = some (.ref f13) := PySem.W.mg_of KX G a13
  have F14 := fun_mk (st := s_is_door_head) l14 c14d k14
  have b14 := F14.binds (ps := ["value", "names"]) fun _ _ _ _ _ _ us hl => match us, hl with | [_, _], _ => rfl
  have g14 : mg "is_door_head" = some (.ref f14) := PySem.W.mg_of KX G a14
  have F15 := fun_mk (st := s_are_heads) l15 c15d k15
  have b15 := F15.binds (ps := ["functions", "doors", "names"]) fun _ _ _ _ _ _ us hl => match us, hl with | [_, _, _], _ => rfl
  have g15 : mg "are_heads" = some (.ref f15) := PySem.W.mg_of KX G a15
  have F16 := fun_mk (st := s_is_room_with) l16 c16d k16
  have b16 := F16.binds (ps := ["value", "names"]) fun _ _ _ _ _ _ us hl => match us, hl with | [_, _], _ => rfl
  have g16 : mg "is_room_with" = some (.ref f16) := PySem.W.mg_of KX G a16
  have F17 := fun_mk (st := s_good_room) l17 c17d k17
  have b17 := F17.binds (ps := ["value"]) fun _ _ _ _ _ _ us hl => match us, hl with | [_], _ => rfl
  have g17 : mg "good_room" = some (.ref f17) := PySem.W.mg_of KX G a17
  have F18 := fun_mk (st := s_need_room) l18 c18d k18
  have b18 := F18.binds (ps := ["source"]) fun _ _ _ _ _ _ us hl => match us, hl with | [_], _ => rfl
  have g18 : mg "need_room" = some (.ref f18) := PySem.W.mg_of KX G a18
  have F19 := fun_mk (st := s_is_room) l19 c19d k19
  have b19 := F19.binds (ps := ["value"]) fun _ _ _ _ _ _ us hl => match us, hl with | [_], _ => rfl
  have g19 : mg "is_room" = some (.ref f19) := PySem.W.mg_of KX G a19
  have F20 := fun_mk (st := s_need_part) l20 c20d k20
  have b20 := F20.binds (ps := ["source", "name"]) fun _ _ _ _ _ _ us hl => match us, hl with | [_, _], _ => rfl
  have g20 : mg "need_part" = some (.ref f20) := PySem.W.mg_of KX G a20
  have F21 := fun_mk (st := s_run_names) l21 c21d k21
  have b21 := F21.binds (ps := ["source", "part"]) fun _ _ _ _ _ _ us hl => match us, hl with | [_, _], _ => rfl
  have g21 : mg "run_names" = some (.ref f21) := PySem.W.mg_of KX G a21
  have F22 := fun_mk (st := s_runs_of) l22 c22d k22
  have b22 := F22.binds (ps := ["source", "part"]) fun _ _ _ _ _ _ us hl => match us, hl with | [_, _], _ => rfl
  have g22 : mg "runs_of" = some (.ref f22) := PySem.W.mg_of KX G a22
  have F23 := fun_mk (st := s_asks_of) l23 c23d k23
  have b23 := F23.binds (ps := ["source", "part"]) fun _ _ _ _ _ _ us hl => match us, hl with | [_, _], _ => rfl
  have g23 : mg "asks_of" = some (.ref f23) := PySem.W.mg_of KX G a23
  have F24 := fun_mk (st := s__law_begun) l24 c24d k24
  have b24 := F24.binds (ps := ["script"]) fun _ _ _ _ _ _ us hl => match us, hl with | [_], _ => rfl
  have g24 : mg "_law_begun" = some (.ref f24) := PySem.W.mg_of KX G a24
  have F25 := fun_mk (st := s__law_mixed) l25 c25d k25
  have b25 := F25.binds (ps := ["state"]) fun _ _ _ _ _ _ us hl => match us, hl with | [_], _ => rfl
  have g25 : mg "_law_mixed" = some (.ref f25) := PySem.W.mg_of KX G a25
  have F26 := fun_mk (st := s__law_draw) l26 c26d k26
  have b26 := F26.binds (ps := ["state", "room"]) fun _ _ _ _ _ _ us hl => match us, hl with | [_, _], _ => rfl
  have g26 : mg "_law_draw" = some (.ref f26) := PySem.W.mg_of KX G a26
  have F27 := fun_mk (st := s__law_pick) l27 c27d k27
  have b27 := F27.binds (ps := ["state", "some"]) fun _ _ _ _ _ _ us hl => match us, hl with | [_, _], _ => rfl
  have g27 : mg "_law_pick" = some (.ref f27) := PySem.W.mg_of KX G a27
  have F28 := fun_mk (st := s__law_shuffled) l28 c28d k28
  have b28 := F28.binds (ps := ["state", "some"]) fun _ _ _ _ _ _ us hl => match us, hl with | [_, _], _ => rfl
  have g28 : mg "_law_shuffled" = some (.ref f28) := PySem.W.mg_of KX G a28
  have F29 := fun_mk (st := s__law_small) l29 c29d k29
  have b29 := F29.binds (ps := ["state"]) fun _ _ _ _ _ _ us hl => match us, hl with | [_], _ => rfl
  have g29 : mg "_law_small" = some (.ref f29) := PySem.W.mg_of KX G a29
  have F30 := fun_mk (st := s__law_caught) l30 c30d k30
  have b30 := F30.binds (ps := ["action"]) fun _ _ _ _ _ _ us hl => match us, hl with | [_], _ => rfl
  have g30 : mg "_law_caught" = some (.ref f30) := PySem.W.mg_of KX G a30
  have F31 := fun_mk (st := s__law_signs_of) l31 c31d k31
  have b31 := F31.binds (ps := []) fun _ _ _ _ _ _ us hl => match us, hl with | [], _ => rfl
  have g31 : mg "_law_signs_of" = some (.ref f31) := PySem.W.mg_of KX G a31
  have F32 := fun_mk (st := s__law_inner_of) l32 c32d k32
  have b32 := F32.binds (ps := ["node"]) fun _ _ _ _ _ _ us hl => match us, hl with | [_], _ => rfl
  have g32 : mg "_law_inner_of" = some (.ref f32) := PySem.W.mg_of KX G a32
  have F33 := fun_mk (st := s__law_reading) l33 c33d k33
  have b33 := F33.binds (ps := ["body", "deep"]) fun _ _ _ _ _ _ us hl => match us, hl with | [_, _], _ => rfl
  have g33 : mg "_law_reading" = some (.ref f33) := PySem.W.mg_of KX G a33
  have F34 := fun_mk (st := s__law_bodies) l34 c34d k34
  have b34 := F34.binds (ps := ["room"]) fun _ _ _ _ _ _ us hl => match us, hl with | [_], _ => rfl
  have g34 : mg "_law_bodies" = some (.ref f34) := PySem.W.mg_of KX G a34
  have F35 := fun_mk (st := s__law_mixed_value) l35 c35d k35
  have b35 := F35.binds (ps := ["state", "functions", "imports", "deep"]) fun _ _ _ _ _ _ us hl => match us, hl with | [_, _, _, _], _ => rfl
  have g35 : mg "_law_mixed_value" = some (.ref f35) := PySem.W.mg_of KX G a35
  have F36 := fun_mk (st := s__law_mixed_body) l36 c36d k36
  have b36 := F36.binds (ps := ["state", "functions", "imports"]) fun _ _ _ _ _ _ us hl => match us, hl with | [_, _, _], _ => rfl
  have g36 : mg "_law_mixed_body" = some (.ref f36) := PySem.W.mg_of KX G a36
  have F37 := fun_mk (st := s__law_runner_room) l37 c37d k37
  have b37 := F37.binds (ps := ["state"]) fun _ _ _ _ _ _ us hl => match us, hl with | [_], _ => rfl
  have g37 : mg "_law_runner_room" = some (.ref f37) := PySem.W.mg_of KX G a37
  have F38 := fun_mk (st := s__law_led_to) l38 c38d k38
  have b38 := F38.binds (ps := ["room", "part"]) fun _ _ _ _ _ _ us hl => match us, hl with | [_, _], _ => rfl
  have g38 : mg "_law_led_to" = some (.ref f38) := PySem.W.mg_of KX G a38
  have F39 := fun_mk (st := s__law_asked_in) l39 c39d k39
  have b39 := F39.binds (ps := ["room", "names"]) fun _ _ _ _ _ _ us hl => match us, hl with | [_, _], _ => rfl
  have g39 : mg "_law_asked_in" = some (.ref f39) := PySem.W.mg_of KX G a39
  have ClCB : Cls K CB := ⟨pgCB, hdCB, poCB, saCB⟩
  have GcCB : mg "BodyCheck" = some (.ref CB) := PySem.W.mg_of KX G gCB
  have TB_ := (⟨ClCB, nCB_imports, nCB_blocks, nCB_names, nCB_params⟩ : TxB K CB)
  have Fm0 := fun_mk (st := s_BodyCheck___init__) lm0 cm0d km0
  have bm0 := Fm0.binds (ps := ["self", "imports", "blocks", "names"]) fun _ _ _ _ _ _ us hl => match us, hl with | [_, _, _, _], _ => rfl
  have Mm0 : Meth K CB "__init__" fm0 := ⟨im0, ym0, km0⟩
  have Km0 : Mk K CB fm0 := ⟨mkCB, im0, ym0, kcCB⟩
  have Fm1 := fun_mk (st := s_BodyCheck_allow) lm1 cm1d km1
  have bm1 := Fm1.binds (ps := ["self", "function"]) fun _ _ _ _ _ _ us hl => match us, hl with | [_, _], _ => rfl
  have Mm1 : Meth K CB "allow" fm1 := ⟨im1, ym1, km1⟩
  have Fm2 := fun_mk (st := s_BodyCheck_has_block) lm2 cm2d km2
  have bm2 := Fm2.binds (ps := ["self", "value"]) fun _ _ _ _ _ _ us hl => match us, hl with | [_, _], _ => rfl
  have Mm2 : Meth K CB "has_block" fm2 := ⟨im2, ym2, km2⟩
  have Fm3 := fun_mk (st := s_BodyCheck_has_params) lm3 cm3d km3
  have bm3 := Fm3.binds (ps := ["self", "function", "arguments"]) fun _ _ _ _ _ _ us hl => match us, hl with | [_, _, _], _ => rfl
  have Mm3 : Meth K CB "has_params" fm3 := ⟨im3, ym3, km3⟩
  have Fm4 := fun_mk (st := s_BodyCheck_has_import) lm4 cm4d km4
  have bm4 := Fm4.binds (ps := ["self", "room", "door"]) fun _ _ _ _ _ _ us hl => match us, hl with | [_, _, _], _ => rfl
  have Mm4 : Meth K CB "has_import" fm4 := ⟨im4, ym4, km4⟩
  have Fm5 := fun_mk (st := s_BodyCheck_left_value) lm5 cm5d km5
  have bm5 := Fm5.binds (ps := ["self", "value", "left", "depth"]) fun _ _ _ _ _ _ us hl => match us, hl with | [_, _, _, _], _ => rfl
  have Mm5 : Meth K CB "left_value" fm5 := ⟨im5, ym5, km5⟩
  have Fm6 := fun_mk (st := s_BodyCheck_left_behind) lm6 cm6d km6
  have bm6 := Fm6.binds (ps := ["self", "body", "left", "depth"]) fun _ _ _ _ _ _ us hl => match us, hl with | [_, _, _, _], _ => rfl
  have Mm6 : Meth K CB "left_behind" fm6 := ⟨im6, ym6, km6⟩
  have Fm7 := fun_mk (st := s_BodyCheck_is_part_body) lm7 cm7d km7
  have bm7 := Fm7.binds (ps := ["self", "body"]) fun _ _ _ _ _ _ us hl => match us, hl with | [_, _], _ => rfl
  have Mm7 : Meth K CB "is_part_body" fm7 := ⟨im7, ym7, km7⟩
  have REBadRoom : ErrC K mg "BadRoom" EBadRoom := ⟨PySem.W.mg_of KX G gEBadRoom, xEBadRoom, kEBadRoom, bEBadRoom, tEBadRoom⟩
  have XEBadRoom : ExcC K EBadRoom := ⟨u1EBadRoom, u2EBadRoom, bEBadRoom, u3EBadRoom, u4EBadRoom, v1, v2, u5EBadRoom⟩
  have XENoPart : ExcC K ENoPart := ⟨u1ENoPart, u2ENoPart, bENoPart, u3ENoPart, u4ENoPart, v1, v2, u5ENoPart⟩
  have UENoPart : SupC l.prog K mg ENoPart := { cls := ⟨_, _, _, _, _, _, _, _, _, _, _, _, _, _, _, xENoPart, rfl⟩, sa := j1ENoPart, exC := bENoPart, tyC := tENoPart, kC := kENoPart, mS := PySem.W.mg_none_of KX G zS, top := zP, any := zT, up := j2ENoPart, ve := j3ENoPart, own := j4ENoPart }
  have RENoPart_part : ErrF l.prog K mg "NoPart" "part" ENoPart := ⟨PySem.W.mg_of KX G gENoPart, UENoPart, XENoPart, j5ENoPart_part⟩
  have VENoPart : FunS l.prog K "__init__" "NoPart.__init__" s_NoPart___init__ IENoPart _ ENoPart LENoPart := ⟨⟨_, _, _, _, _, _, _, _, _, rfl, lENoPart, cENoPart, _, _, _, _, _, _, dENoPart, sENoPart, rENoPart⟩, wENoPart, ⟨_, _, _, nENoPart⟩, ⟨_, rfl, rfl⟩⟩
  have BENoPart : Binds K _ ["self", "part"] [] := .all (fd := PySem.W.ksFn "__init__" "NoPart.__init__" (defArgs s_NoPart___init__) (defBody s_NoPart___init__) (defScope s_NoPart___init__) .none kiENoPart diENoPart piENoPart yiENoPart (.ref DENoPart) tiENoPart LENoPart) fun us hl => match us, hl with | [_, _], _ => rfl
  refine ⟨PySem.W.fnOf "law" "law" (defArgs s_law) (defBody s_law) (defScope s_law) .none kV40 dc40 pm40 an40 (.ref c40) ct40, [(c40, P40)], spLawT K [(P40, "law.<locals>.<lambda>")], fun p hp => ?_, fun s v => .of_eq rfl, fun H a ns hl _ hT hS => ?_, fun base KB GB TB => ?_⟩
  · skip
    obtain rfl := List.mem_singleton.mp hp
    exact ⟨tO40, tN40, PySem.W.codeHd_of_K KX tH40⟩
  · refine ⟨a, ns, rfl, hS, Nat.le_trans hl n63, fun p hp => ?_, fun _ => rfl⟩
    obtain rfl := List.mem_singleton.mp hp
    exact TabS.nil (hT (c40, P40) (List.mem_singleton.mpr rfl))
  · skip
    have TB40 := TB (c40, P40) (List.mem_singleton.mpr rfl)
    have O0 : FnOk l.prog w K mg base CX0 1 f0 _ ["value", "low", "high"] spWhole := ok_whole F0 T
    have D0 : DefF l.prog w K mg base CX0 1 "is_whole" ["value", "low", "high"] spWhole := ⟨_, _, O0, g0, k0, b0⟩
    have O1 : FnOk l.prog w K mg base CX0 1 f1 _ ["values"] spNumsL := ok_numsL F1 T
    have D1 : DefF l.prog w K mg base CX0 1 "are_numbers" ["values"] spNumsL := ⟨_, _, O1, g1, k1, b1⟩
    have O2 : FnOk l.prog w K mg base CX0 1 f2 _ ["value", "least", "most"] spTuple := ok_tuple F2 T
    have D2 : DefF l.prog w K mg base CX0 1 "is_tuple" ["value", "least", "most"] spTuple := ⟨_, _, O2, g2, k2, b2⟩
    have O3 : FnOk l.prog w K mg base CX0 1 f3 _ ["value"] spGoodName := ok_good_name F3 T WD
    have D3 : DefF l.prog w K mg base CX0 1 "good_name" ["value"] spGoodName := ⟨_, _, O3, g3, k3, b3⟩
    have O4 : FnOk l.prog w K mg base CX0 1 f4 _ ["things"] spUnlikeS := ok_all_unlikeS F4 T nSet
    have D4 : DefF l.prog w K mg base CX0 1 "all_unlike" ["things"] spUnlikeS := ⟨_, _, O4, g4, k4, b4⟩
    have DUT : DefF l.prog w K mg base CX0 1 "all_unlike" ["things"] spUnlikeT := ⟨_, _, ok_all_unlikeT F4 T nSet, g4, k4, b4⟩
    have O5 : FnOk l.prog w K mg base CX0 1 f5 _ ["node"] spChildren := ok_children F5 T TO
    have D5 : DefF l.prog w K mg base CX0 1 "children" ["node"] spChildren := ⟨_, _, O5, g5, k5, b5⟩
    have O6 : FnOk l.prog w K mg base CX0 14 f6 _ ["body"] (spNodes 12) := ok_nodes_in F6 g6 k6 b6 (D5.mono (k := 1) (by decide)) 12
    have D6 : DefF l.prog w K mg base CX0 14 "nodes_in" ["body"] (spNodes 12) := ⟨_, _, O6, g6, k6, b6⟩
    have O7 : FnOk l.prog w K mg base CX0 1 f7 _ ["source"] spPartsOf := ok_parts_of F7
    have D7 : DefF l.prog w K mg base CX0 1 "parts_of" ["source"] spPartsOf := ⟨_, _, O7, g7, k7, b7⟩
    have O8 : FnOk l.prog w K mg base CX0 2 f8 _ ["source", "name"] spPartC := ok_part_called F8 T (D7.mono (k := 1) (by decide))
    have D8 : DefF l.prog w K mg base CX0 2 "part_called" ["source", "name"] spPartC := ⟨_, _, O8, g8, k8, b8⟩
    have O9 : FnOk l.prog w K mg base CX0 2 f9 _ ["value", "names"] spKnown := ok_known F9 T (D3.mono (k := 1) (by decide))
    have D9 : DefF l.prog w K mg base CX0 2 "is_known_name" ["value", "names"] spKnown := ⟨_, _, O9, g9, k9, b9⟩
    have O10 : FnOk l.prog w K mg base CX0 3 f10 _ ["value", "own", "names"] spImps := ok_imports F10 T ⟨_, PySem.W.mg_of KX G cst1⟩ (D2.mono (k := 1) (by decide)) (D9.mono (k := 2) (by decide)) DUT
    have D10 : DefF l.prog w K mg base CX0 3 "are_imports" ["value", "own", "names"] spImps := ⟨_, _, O10, g10, k10, b10⟩
    have O11 : FnOk l.prog w K mg base CX0 3 f11 _ ["value", "names"] spBlock := ok_block F11 T ⟨_, PySem.W.mg_of KX G cst6⟩ (D9.mono (k := 2) (by decide)) (D1.mono (k := 1) (by decide))
    have D11 : DefF l.prog w K mg base CX0 3 "is_block" ["value", "names"] spBlock := ⟨_, _, O11, g11, k11, b11⟩
    have O12 : FnOk l.prog w K mg base CX0 4 f12 _ ["value", "names"] spBlocks := ok_blocks F12 T ⟨_, PySem.W.mg_of KX G cst5⟩ (D2.mono (k := 1) (by decide)) (D11.mono (k := 3) (by decide)) (D4.mono (k := 1) (by decide))
    have D12 : DefF l.prog w K mg base CX0 4 "are_blocks" ["value", "names"] spBlocks := ⟨_, _, O12, g12, k12, b12⟩
    have O13 : FnOk l.prog w K mg base CX0 3 f13 _ ["value", "names"] spFunH := ok_fun_head F13 T ⟨_, PySem.W.mg_of KX G cst8⟩ (D9.mono (k := 2) (by decide)) (D4.mono (k := 1) (by decide))
    have D13 : DefF l.prog w K mg base CX0 3 "is_function_head" ["value", "names"] spFunH := ⟨_, _, O13, g13, k13, b13⟩
    have O14 : FnOk l.prog w K mg base CX0 3 f14 _ ["value", "names"] spDoorH := ok_door_head F14 T ⟨_, PySem.W.mg_of KX G cst9⟩ (D9.mono (k := 2) (by decide)) (D0.mono (k := 1) (by decide))
    have D14 : DefF l.prog w K mg base CX0 3 "is_door_head" ["value", "names"] spDoorH := ⟨_, _, O14, g14, k14, b14⟩
    have O15 : FnOk l.prog w K mg base CX0 4 f15 _ ["functions", "doors", "names"] spHeads := ok_heads F15 T ⟨_, PySem.W.mg_of KX G cst7⟩ ⟨_, PySem.W.mg_of KX G cst2⟩ (D2.mono (k := 1) (by decide)) (D13.mono (k := 3) (by decide)) (D14.mono (k := 3) (by decide)) (D4.mono (k := 1) (by decide))
    have D15 : DefF l.prog w K mg base CX0 4 "are_heads" ["functions", "doors", "names"] spHeads := ⟨_, _, O15, g15, k15, b15⟩
    have Om0 : FnOk l.prog w K mg base CX0 1 fm0 _ ["self", "imports", "blocks", "names"] (spBInit CB) := ok_binit Fm0 TB_
    have K_m0 : MakF l.prog w K mg base CX0 1 "BodyCheck" CB ["self", "imports", "blocks", "names"] (spBInit CB) := ⟨_, _, Om0, Km0, GcCB, bm0⟩
    have Om1 : FnOk l.prog w K mg base CX0 1 fm1 _ ["self", "function"] (spAllow CB) := ok_allow Fm1 T TB_
    have Dm1 : MetF l.prog w K mg base CX0 1 CB "allow" ["self", "function"] (spAllow CB) := ⟨_, _, Om1, Mm1, bm1⟩
    have Om2 : FnOk l.prog w K mg base CX0 1 fm2 _ ["self", "value"] (spHasB CB) := ok_has_block Fm2 T TB_
    have Dm2 : MetF l.prog w K mg base CX0 1 CB "has_block" ["self", "value"] (spHasB CB) := ⟨_, _, Om2, Mm2, bm2⟩
    have Om3 : FnOk l.prog w K mg base CX0 1 fm3 _ ["self", "function", "arguments"] (spHasP CB) := ok_has_params Fm3 T TB_
    have Dm3 : MetF l.prog w K mg base CX0 1 CB "has_params" ["self", "function", "arguments"] (spHasP CB) := ⟨_, _, Om3, Mm3, bm3⟩
    have Om4 : FnOk l.prog w K mg base CX0 1 fm4 _ ["self", "room", "door"] (spHasI CB) := ok_has_import Fm4 T TB_
    have Dm4 : MetF l.prog w K mg base CX0 1 CB "has_import" ["self", "room", "door"] (spHasI CB) := ⟨_, _, Om4, Mm4, bm4⟩
    have LEFTS := ok_lefts Fm5 Fm6 T TB_ TO Mm5 bm5 Mm6 bm6 (D9.mono (k := 2) (by decide)) (Dm2.mono (k := 1) (by decide)) (Dm3.mono (k := 1) (by decide)) (Dm4.mono (k := 1) (by decide)) 12
    have Om5 : FnOk l.prog w K mg base CX0 15 fm5 _ ["self", "value", "left", "depth"] (spLV CB 12) := LEFTS.1
    have Dm5 : MetF l.prog w K mg base CX0 15 CB "left_value" ["self", "value", "left", "depth"] (spLV CB 12) := ⟨_, _, Om5, Mm5, bm5⟩
    have Om6 : FnOk l.prog w K mg base CX0 15 fm6 _ ["self", "body", "left", "depth"] (spLB CB 12) := LEFTS.2
    have Dm6 : MetF l.prog w K mg base CX0 15 CB "left_behind" ["self", "body", "left", "depth"] (spLB CB 12) := ⟨_, _, Om6, Mm6, bm6⟩
    have Om7 : FnOk l.prog w K mg base CX0 16 fm7 _ ["self", "body"] (spPart CB) := ok_is_part_body Fm7 TB_ ⟨_, PySem.W.mg_of KX G cst3⟩ (Dm6.mono (k := 15) (by decide))
    have Dm7 : MetF l.prog w K mg base CX0 16 CB "is_part_body" ["self", "body"] (spPart CB) := ⟨_, _, Om7, Mm7, bm7⟩
    have O16 : FnOk l.prog w K mg base CX0 17 f16 _ ["value", "names"] spRoomW := ok_room_with F16 T TB_ (D2.mono (k := 1) (by decide)) (D9.mono (k := 2) (by decide)) (D10.mono (k := 3) (by decide)) (D12.mono (k := 4) (by decide)) (D15.mono (k := 4) (by decide)) (K_m0.mono (k := 1) (by decide)) (Dm7.mono (k := 16) (by decide)) (Dm1.mono (k := 1) (by decide))
    have D16 : DefF l.prog w K mg base CX0 17 "is_room_with" ["value", "names"] spRoomW := ⟨_, _, O16, g16, k16, b16⟩
    have O17 : FnOk l.prog w K mg base CX0 18 f17 _ ["value"] spGoodRoom := ok_good_room F17 (D16.mono (k := 17) (by decide))
    have D17 : DefF l.prog w K mg base CX0 18 "good_room" ["value"] spGoodRoom := ⟨_, _, O17, g17, k17, b17⟩
    have O18 : FnOk l.prog w K mg base (L2.CX l.prog w) 19 f18 _ ["source"] (spNeedRoom EBadRoom) := ok_need_room F18 REBadRoom (D17.mono (k := 18) (by decide))
    have O19 : FnOk l.prog w K mg base CX0 19 f19 _ ["value"] spGoodRoom := ok_is_room F19 (D17.mono (k := 18) (by decide))
    have D19 : DefF l.prog w K mg base CX0 19 "is_room" ["value"] spGoodRoom := ⟨_, _, O19, g19, k19, b19⟩
    have OINP : FnOk l.prog w K mg base CX0 1 IENoPart _ ["self", "part"] (spErrR ENoPart "part") := ok_NoPart_init VENoPart RENoPart_part
    have O20 : FnOk l.prog w K mg base (L2.CX l.prog w) 3 f20 _ ["source", "name"] (spNeedPart ENoPart) := ok_need_part F20 RENoPart_part j6ENoPart j7ENoPart OINP BENoPart (D8.mono (k := 2) (by decide))
    have O21 : FnOk l.prog w K mg base CX0 21 f21 _ ["source", "part"] (fun vs H Q E => ∃ j, j ≤ 6 ∧ spRunN j vs H Q E) := FnOk.someJ (ok_run_names F21 g21 k21 b21 (D6.mono (k := 14) (by decide)) (D8.mono (k := 2) (by decide)) 6)
    have D21 : DefF l.prog w K mg base CX0 21 "run_names" ["source", "part"] (fun vs H Q E => ∃ j, j ≤ 6 ∧ spRunN j vs H Q E) := ⟨_, _, O21, g21, k21, b21⟩
    have O22 : FnOk l.prog w K mg base (L2.CX l.prog w) 22 f22 _ ["source", "part"] (spRunsOf EBadRoom ENoPart) := ok_runs_of F22 T O18 g18 k18 b18 O20 g20 k20 b20 (D21.mono (k := 21) (by decide))
    have O23 : FnOk l.prog w K mg base (L2.CX l.prog w) 22 f23 _ ["source", "part"] (spAsksOf EBadRoom ENoPart) := ok_asks_of F23 T O18 g18 k18 b18 O20 g20 k20 b20 (D8.mono (k := 2) (by decide)) (D6.mono (k := 14) (by decide)) (D21.mono (k := 21) (by decide))
    have O24 : FnOk l.prog w K mg base CX0 1 f24 _ ["script"] (spBegun K) := ok_begun F24 T
    have D24 : DefF l.prog w K mg base CX0 1 "_law_begun" ["script"] (spBegun K) := ⟨_, _, O24, g24, k24, b24⟩
    have O25 : FnOk l.prog w K mg base CX0 1 f25 _ ["state"] spMixed := ok_mixed F25 T
    have D25 : DefF l.prog w K mg base CX0 1 "_law_mixed" ["state"] spMixed := ⟨_, _, O25, g25, k25, b25⟩
    have O26 : FnOk l.prog w K mg base CX0 2 f26 _ ["state", "room"] spDraw := ok_draw F26 T O25 g25 k25 b25
    have D26 : DefF l.prog w K mg base CX0 2 "_law_draw" ["state", "room"] spDraw := ⟨_, _, O26, g26, k26, b26⟩
    have O27 : FnOk l.prog w K mg base CX0 3 f27 _ ["state", "some"] spPick := pick_of (ok_pick2 F27 T O26 g26 k26 b26)
    have D27 : DefF l.prog w K mg base CX0 3 "_law_pick" ["state", "some"] spPick := ⟨_, _, O27, g27, k27, b27⟩
    have O28 : FnOk l.prog w K mg base CX0 3 f28 _ ["state", "some"] spShufD := ok__law_shuffled F28 T (D26.mono (k := 2) (by decide))
    have D28 : DefF l.prog w K mg base CX0 3 "_law_shuffled" ["state", "some"] spShufD := ⟨_, _, O28, g28, k28, b28⟩
    have O29 : FnOk l.prog w K mg base CX0 4 f29 _ ["state"] (spNo 2) := ok_small F29 O26 g26 k26 b26 O27 g27 k27 b27
    have D29 : DefF l.prog w K mg base CX0 4 "_law_small" ["state"] (spNo 2) := ⟨_, _, O29, g29, k29, b29⟩
    have O31 : FnOk l.prog w K mg base CX0 1 f31 _ [] spSigns := ok_signs F31
    have D31 : DefF l.prog w K mg base CX0 1 "_law_signs_of" [] spSigns := ⟨_, _, O31, g31, k31, b31⟩
    have O32 : FnOk l.prog w K mg base CX0 2 f32 _ ["node"] spChildren := ok_inner F32 T (D31.mono (k := 1) (by decide))
    have D32 : DefF l.prog w K mg base CX0 2 "_law_inner_of" ["node"] spChildren := ⟨_, _, O32, g32, k32, b32⟩
    have O33 : FnOk l.prog w K mg base CX0 15 f33 _ ["body", "deep"] (spReading 12) := ok_reading F33 g33 k33 b33 (D32.mono (k := 2) (by decide)) 12
    have D33 : DefF l.prog w K mg base CX0 15 "_law_reading" ["body", "deep"] (spReading 12) := ⟨_, _, O33, g33, k33, b33⟩
    have O34 : FnOk l.prog w K mg base CX0 1 f34 _ ["room"] spBodies := ok_bodies F34 T nDict
    have D34 : DefF l.prog w K mg base CX0 1 "_law_bodies" ["room"] spBodies := ⟨_, _, O34, g34, k34, b34⟩
    have O35 : FnOk l.prog w K mg base CX0 8 f35 _ ["state", "functions", "imports", "deep"] (spMix 3) := ok_mix F35 g35 k35 b35 T (D26.mono (k := 4) (by decide)) (D27.mono (k := 4) (by decide)) (D29.mono (k := 4) (by decide)) 3
    have D35 : DefF l.prog w K mg base CX0 8 "_law_mixed_value" ["state", "functions", "imports", "deep"] (spMix 3) := ⟨_, _, O35, g35, k35, b35⟩
    have O36 : FnOk l.prog w K mg base CX0 9 f36 _ ["state", "functions", "imports"] spMb := ok_mb F36 T (D26.mono (k := 4) (by decide)) (D27.mono (k := 4) (by decide)) (D35.mono (k := 8) (by decide))
    have D36 : DefF l.prog w K mg base CX0 9 "_law_mixed_body" ["state", "functions", "imports"] spMb := ⟨_, _, O36, g36, k36, b36⟩
    have O37 : FnOk l.prog w K mg base CX0 10 f37 _ ["state"] spRunner := ok_rr F37 T (D26.mono (k := 9) (by decide)) (D28.mono (k := 9) (by decide)) (D36.mono (k := 9) (by decide))
    have D37 : DefF l.prog w K mg base CX0 10 "_law_runner_room" ["state"] spRunner := ⟨_, _, O37, g37, k37, b37⟩
    have O38 : FnOk l.prog w K mg base CX0 16 f38 _ ["room", "part"] spLed := ok_led F38 T (D34.mono (k := 1) (by decide)) (D33.mono (k := 15) (by decide))
    have D38 : DefF l.prog w K mg base CX0 16 "_law_led_to" ["room", "part"] spLed := ⟨_, _, O38, g38, k38, b38⟩
    have O39 : FnOk l.prog w K mg base CX0 16 f39 _ ["room", "names"] spAsked := ok_asked F39 T (D34.mono (k := 1) (by decide)) (D33.mono (k := 15) (by decide))
    have D39 : DefF l.prog w K mg base CX0 16 "_law_asked_in" ["room", "names"] spAsked := ⟨_, _, O39, g39, k39, b39⟩
    exact ok_law l40 c40d T nMin nSet TB40 (List.mem_singleton.mpr rfl) (fun p hp _ => by rw [List.mem_singleton.mp hp]) (PySem.W.mg_of KX G gCO) RENoPart_part eENoPart iENoPart REBadRoom XEBadRoom eEBadRoom iEBadRoom F30 g30 b30 O22 g22 k22 b22 (kb_runs_of F22) O23 g23 k23 b23 (kb_asks_of F23) (D24.mono (k := 24) (by decide)) (D37.mono (k := 24) (by decide)) (D19.mono (k := 24) (by decide)) (D34.mono (k := 1) (by decide)) (D38.mono (k := 24) (by decide)) (D39.mono (k := 24) (by decide))
end OH
end
open PySem PySem.W PyProof.Rows in
set_option Elab.async false in
set_option maxRecDepth 100000 in
set_option maxHeartbeats 0 in
theorem PySem.Challenge.cw_ownharm_k05_what_a_part_may_run_and_ask_holds : PySem.Challenge.rw_ownharm_k05_what_a_part_may_run_and_ask.Holds := by
  w_on; o_law; k_head; (case hw => w_witness2)
  k_fill
  refine OH.walk_ofG (n := 63) (k := 25) (x := "script") rfl (by decide) rfl ⟨rfl, by decide, by decide⟩ (fun w h Y => PySem.W.km_in_of Y) ?F
  case F =>
    intro w mg fa h Y KX G hmg
    refine' OH.all_mk (P40 := 392) KX G hmg (by decide) ?a0 ?l0 ?c0d ?k0 ?a1 ?l1 ?c1d ?k1 ?a2 ?l2 ?c2d ?k2 ?a3 ?l3 ?c3d ?k3 ?a4 ?l4 ?c4d ?k4 ?a5 ?l5 ?c5d ?k5 ?a6 ?l6 ?c6d ?k6 ?a7 ?l7 ?c7d ?k7 ?a8 ?l8 ?c8d ?k8 ?a9 ?l9 ?c9d ?k9 ?a10 ?l10 ?c10d ?k10 ?a11 ?l11 ?c11d ?k11 ?a12 ?l12 ?c12d ?k12 ?a13 ?l13 ?c13d ?k13 ?a14 ?l14 ?c14d ?k14 ?a15 ?l15 ?c15d ?k15 ?a16 ?l16 ?c16d ?k16 ?a17 ?l17 ?c17d ?k17 ?a18 ?l18 ?c18d ?k18 ?a19 ?l19 ?c19d ?k19 ?a20 ?l20 ?c20d ?k20 ?a21 ?l21 ?c21d ?k21 ?a22 ?l22 ?c22d ?k22 ?a23 ?l23 ?c23d ?k23 ?a24 ?l24 ?c24d ?k24 ?a25 ?l25 ?c25d ?k25 ?a26 ?l26 ?c26d ?k26 ?a27 ?l27 ?c27d ?k27 ?a28 ?l28 ?c28d ?k28 ?a29 ?l29 ?c29d ?k29 ?a30 ?l30 ?c30d ?k30 ?a31 ?l31 ?c31d ?k31 ?a32 ?l32 ?c32d ?k32 ?a33 ?l33 ?c33d ?k33 ?a34 ?l34 ?c34d ?k34 ?a35 ?l35 ?c35d ?k35 ?a36 ?l36 ?c36d ?k36 ?a37 ?l37 ?c37d ?k37 ?a38 ?l38 ?c38d ?k38 ?a39 ?l39 ?c39d ?k39 ?a40 ?l40 ?c40d ?k40 ?gCB ?pgCB ?hdCB ?poCB ?saCB ?mkCB ?kcCB ?nCB_imports ?nCB_blocks ?nCB_names ?nCB_params ?im0 ?ym0 ?lm0 ?cm0d ?km0 ?im1 ?ym1 ?lm1 ?cm1d ?km1 ?im2 ?ym2 ?lm2 ?cm2d ?km2 ?im3 ?ym3 ?lm3 ?cm3d ?km3 ?im4 ?ym4 ?lm4 ?cm4d ?km4 ?im5 ?ym5 ?lm5 ?cm5d ?km5 ?im6 ?ym6 ?lm6 ?cm6d ?km6 ?im7 ?ym7 ?lm7 ?cm7d ?km7 ?z_isinstance ?z_int ?z_bool ?z_tuple ?z_str ?z_len ?z_all ?z_list ?z_abs ?z_range ?z_zip ?z_sorted ?z_repr ?z_min ?z_set ?z_dict ?cst0 ?cst1 ?cst2 ?cst3 ?cst4 ?cst5 ?cst6 ?cst7 ?cst8 ?cst9 ?gCO ?v1 ?v2 ?gEBadRoom ?xEBadRoom ?kEBadRoom ?gENoPart ?bEBadRoom ?tEBadRoom ?u1EBadRoom ?u2EBadRoom ?u3EBadRoom ?u4EBadRoom ?u5EBadRoom ?iEBadRoom ?eEBadRoom ?bENoPart ?tENoPart ?u1ENoPart ?u2ENoPart ?u3ENoPart ?u4ENoPart ?u5ENoPart ?iENoPart ?eENoPart ?zS ?zT ?zP ?xENoPart ?kENoPart ?j1ENoPart ?j2ENoPart ?j3ENoPart ?j4ENoPart ?j5ENoPart_part ?j6ENoPart ?j7ENoPart ?lENoPart ?cENoPart ?wENoPart ?nENoPart ?dENoPart ?sENoPart ?rENoPart ?gFAIL ?aOPS ?lOPS ?aWDS ?lWDS ?lowW ?ekW ?rW0 ?rW1 ?rW2 ?rW3 ?rW4 ?rW5 ?rW6 ?rW7 ?rW8 ?rW9 ?rW10 ?rW11 ?litW ?tH40 ?tN40 (PySem.W.km_tabs_of Y 392 (by simp))
    (case a0 => k_is)
    (case l0 => k_is)
    (case c0d => k_is)
    (case k0 => k_is)
    (case a1 => k_is)
    (case l1 => k_is)
    (case c1d => k_is)
    (case k1 => k_is)
    (case a2 => k_is)
    (case l2 => k_is)
    (case c2d => k_is)
    (case k2 => k_is)
    (case a3 => k_is)
    (case l3 => k_is)
    (case c3d => k_is)
    (case k3 => k_is)
    (case a4 => k_is)
    (case l4 => k_is)
    (case c4d => k_is)
    (case k4 => k_is)
    (case a5 => k_is)
    (case l5 => k_is)
    (case c5d => k_is)
    (case k5 => k_is)
    (case a6 => k_is)
    (case l6 => k_is)
    (case c6d => k_is)
    (case k6 => k_is)
    (case a7 => k_is)
    (case l7 => k_is)
    (case c7d => k_is)
    (case k7 => k_is)
    (case a8 => k_is)
    (case l8 => k_is)
    (case c8d => k_is)
    (case k8 => k_is)
    (case a9 => k_is)
    (case l9 => k_is)
    (case c9d => k_is)
    (case k9 => k_is)
    (case a10 => k_is)
    (case l10 => k_is)
    (case c10d => k_is)
    (case k10 => k_is)
    (case a11 => k_is)
    (case l11 => k_is)
    (case c11d => k_is)
    (case k11 => k_is)
    (case a12 => k_is)
    (case l12 => k_is)
    (case c12d => k_is)
    (case k12 => k_is)
    (case a13 => k_is)
    (case l13 => k_is)
    (case c13d => k_is)
    (case k13 => k_is)
    (case a14 => k_is)
    (case l14 => k_is)
    (case c14d => k_is)
    (case k14 => k_is)
    (case a15 => k_is)
    (case l15 => k_is)
    (case c15d => k_is)
    (case k15 => k_is)
    (case a16 => k_is)
    (case l16 => k_is)
    (case c16d => k_is)
    (case k16 => k_is)
    (case a17 => k_is)
    (case l17 => k_is)
    (case c17d => k_is)
    (case k17 => k_is)
    (case a18 => k_is)
    (case l18 => k_is)
    (case c18d => k_is)
    (case k18 => k_is)
    (case a19 => k_is)
    (case l19 => k_is)
    (case c19d => k_is)
    (case k19 => k_is)
    (case a20 => k_is)
    (case l20 => k_is)
    (case c20d => k_is)
    (case k20 => k_is)
    (case a21 => k_is)
    (case l21 => k_is)
    (case c21d => k_is)
    (case k21 => k_is)
    (case a22 => k_is)
    (case l22 => k_is)
    (case c22d => k_is)
    (case k22 => k_is)
    (case a23 => k_is)
    (case l23 => k_is)
    (case c23d => k_is)
    (case k23 => k_is)
    (case a24 => k_is)
    (case l24 => k_is)
    (case c24d => k_is)
    (case k24 => k_is)
    (case a25 => k_is)
    (case l25 => k_is)
    (case c25d => k_is)
    (case k25 => k_is)
    (case a26 => k_is)
    (case l26 => k_is)
    (case c26d => k_is)
    (case k26 => k_is)
    (case a27 => k_is)
    (case l27 => k_is)
    (case c27d => k_is)
    (case k27 => k_is)
    (case a28 => k_is)
    (case l28 => k_is)
    (case c28d => k_is)
    (case k28 => k_is)
    (case a29 => k_is)
    (case l29 => k_is)
    (case c29d => k_is)
    (case k29 => k_is)
    (case a30 => k_is)
    (case l30 => k_is)
    (case c30d => k_is)
    (case k30 => k_is)
    (case a31 => k_is)
    (case l31 => k_is)
    (case c31d => k_is)
    (case k31 => k_is)
    (case a32 => k_is)
    (case l32 => k_is)
    (case c32d => k_is)
    (case k32 => k_is)
    (case a33 => k_is)
    (case l33 => k_is)
    (case c33d => k_is)
    (case k33 => k_is)
    (case a34 => k_is)
    (case l34 => k_is)
    (case c34d => k_is)
    (case k34 => k_is)
    (case a35 => k_is)
    (case l35 => k_is)
    (case c35d => k_is)
    (case k35 => k_is)
    (case a36 => k_is)
    (case l36 => k_is)
    (case c36d => k_is)
    (case k36 => k_is)
    (case a37 => k_is)
    (case l37 => k_is)
    (case c37d => k_is)
    (case k37 => k_is)
    (case a38 => k_is)
    (case l38 => k_is)
    (case c38d => k_is)
    (case k38 => k_is)
    (case a39 => k_is)
    (case l39 => k_is)
    (case c39d => k_is)
    (case k39 => k_is)
    (case a40 => k_is)
    (case l40 => k_is)
    (case c40d => k_is)
    (case k40 => k_is)
    (case gCB => k_is)
    (case pgCB => k_is)
    (case hdCB => k_is)
    (case poCB => k_is)
    (case saCB => k_is)
    (case mkCB => k_is)
    (case kcCB => k_is)
    (case nCB_imports => k_is)
    (case nCB_blocks => k_is)
    (case nCB_names => k_is)
    (case nCB_params => k_is)
    (case im0 => k_is)
    (case ym0 => k_is)
    (case lm0 => k_is)
    (case cm0d => k_is)
    (case km0 => k_is)
    (case im1 => k_is)
    (case ym1 => k_is)
    (case lm1 => k_is)
    (case cm1d => k_is)
    (case km1 => k_is)
    (case im2 => k_is)
    (case ym2 => k_is)
    (case lm2 => k_is)
    (case cm2d => k_is)
    (case km2 => k_is)
    (case im3 => k_is)
    (case ym3 => k_is)
    (case lm3 => k_is)
    (case cm3d => k_is)
    (case km3 => k_is)
    (case im4 => k_is)
    (case ym4 => k_is)
    (case lm4 => k_is)
    (case cm4d => k_is)
    (case km4 => k_is)
    (case im5 => k_is)
    (case ym5 => k_is)
    (case lm5 => k_is)
    (case cm5d => k_is)
    (case km5 => k_is)
    (case im6 => k_is)
    (case ym6 => k_is)
    (case lm6 => k_is)
    (case cm6d => k_is)
    (case km6 => k_is)
    (case im7 => k_is)
    (case ym7 => k_is)
    (case lm7 => k_is)
    (case cm7d => k_is)
    (case km7 => k_is)
    (case z_isinstance => k_is)
    (case z_int => k_is)
    (case z_bool => k_is)
    (case z_tuple => k_is)
    (case z_str => k_is)
    (case z_len => k_is)
    (case z_all => k_is)
    (case z_list => k_is)
    (case z_abs => k_is)
    (case z_range => k_is)
    (case z_zip => k_is)
    (case z_sorted => k_is)
    (case z_repr => k_is)
    (case z_min => k_is)
    (case z_set => k_is)
    (case z_dict => k_is)
    (case cst0 => k_is)
    (case cst1 => k_is)
    (case cst2 => k_is)
    (case cst3 => k_is)
    (case cst4 => k_is)
    (case cst5 => k_is)
    (case cst6 => k_is)
    (case cst7 => k_is)
    (case cst8 => k_is)
    (case cst9 => k_is)
    (case gCO => k_is)
    (case v1 => k_is)
    (case v2 => k_is)
    (case gEBadRoom => k_is)
    (case xEBadRoom => kernel_rfl)
    (case kEBadRoom => k_is)
    (case gENoPart => k_is)
    (case bEBadRoom => k_is)
    (case tEBadRoom => k_is)
    (case u1EBadRoom => k_is)
    (case u2EBadRoom => k_is)
    (case u3EBadRoom => k_is)
    (case u4EBadRoom => k_is)
    (case u5EBadRoom => k_is)
    (case iEBadRoom => kernel_rfl)
    (case eEBadRoom => kernel_rfl)
    (case bENoPart => k_is)
    (case tENoPart => k_is)
    (case u1ENoPart => k_is)
    (case u2ENoPart => k_is)
    (case u3ENoPart => k_is)
    (case u4ENoPart => k_is)
    (case u5ENoPart => k_is)
    (case iENoPart => kernel_rfl)
    (case eENoPart => kernel_rfl)
    (case zS => k_is)
    (case zT => k_is)
    (case zP => kernel_rfl)
    (case xENoPart => k_is)
    (case kENoPart => k_is)
    (case j1ENoPart => k_is)
    (case j2ENoPart => kernel_rfl)
    (case j3ENoPart => k_is)
    (case j4ENoPart => first | k_is | kernel_rfl)
    (case j5ENoPart_part => k_is)
    (case j6ENoPart => k_is)
    (case j7ENoPart => k_is)
    (case lENoPart => k_is)
    (case cENoPart => k_is)
    (case wENoPart => k_is)
    (case nENoPart => k_is)
    (case dENoPart => k_is)
    (case sENoPart => rfl)
    (case rENoPart => kernel_rfl)
    (case gFAIL => k_is)
    (case aOPS => k_is)
    (case lOPS => k_is)
    (case aWDS => k_is)
    (case lWDS => k_is)
    (case lowW => kernel_rfl)
    (case ekW => first | k_is | (repeat' first | exact trivial | refine ⟨⟨_, rfl⟩, ?_⟩))
    (case rW0 => k_is)
    (case rW1 => k_is)
    (case rW2 => k_is)
    (case rW3 => k_is)
    (case rW4 => k_is)
    (case rW5 => k_is)
    (case rW6 => k_is)
    (case rW7 => k_is)
    (case rW8 => k_is)
    (case rW9 => k_is)
    (case rW10 => k_is)
    (case rW11 => k_is)
    (case litW => first | k_is | (repeat' first | exact trivial | refine ⟨⟨_, _, rfl, rfl⟩, ?_⟩))
    (case tH40 => kernel_rfl)
    (case tN40 => kernel_rfl)
