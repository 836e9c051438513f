import PyProof.Rows.All
import Wide.All
import OpenK.AllK
import Wide.FinOn
import HandS.ForMost
import HandS.Lambda
import HandS.EndTab
import HandS.WordsExc
import HandS.ExcIs
import HandS.ExcOwn
import HandS.Wide
import HandS.IsInst
import HandS.Star
import HandS.WrittenGet
import HandS.DictTup
import HandS.SortInts
import HandS.RaiseMore
import HandS.TupAny
import HandS.Conv
import HandS.Deep
import HandS.Zip
import HandS.More
import HandS.Property
import HandS.IterVal
import HandS.CallLocal
import HandS.TupSets
import PySem.Challenge.RW_ownharm_k61_texts_of_rows_and_the_first
import KE.KEqSeq
import HandS.Style
import HandS.Walk
import KE.GoesMore
import HandS.ExcInit
import HandS.FStr
import KE.KExcSuper
import HandS.TupLe
import HandS.Text
import HandS.StrMore
import KE.IntTextLaws
import KE.KIntText
import KE.IntTextText
section
set_option Elab.async false
set_option linter.all false
set_option maxRecDepth 100000
set_option maxHeartbeats 2000000
/-! Calls that know that no repr is under way (guards = some []). -/
namespace OH
open PySem PySem.Spec PyProof.Rows L2
/-- a def's promise, for callers around whom no guard stands -/
structure FnG (P : Program) (w : World) (K : PySem.W.Frag) (mg : Str → Option Value) (base : Heap)
    (CX : CXT) (k : Nat) (f : Addr) (fd : FuncData) (ps : List Str) (sp : Sp) : Prop where
  len : ∀ vs H Q E, sp vs H Q E → vs.length = ps.length
  go : ∀ (A : Around) (out : List Env) (s : Shared) (H : Hp) (ar : Args) (us : List Value)
    (vs : List V) (Q : VK) (E : XK), A.guards = some [] → Room k A → Env0 P w K mg base A out s H →
    BindsTo s fd ar (ps.zip us) → Vals vs us → sp vs H Q E →
    codeAny (model P w) A (.call (.ref f) ar) (CR CX out P w H s Q E) s
theorem fnG_fun {P : Program} {w : World} {K : PySem.W.Frag} {mg : Str → Option Value} {base : Heap}
    {x qual : Str} {st : Stmt} {f : Addr} {fd : FuncData} {N ps : List Str} {k : Nat} {sp : Sp}
    (F : Fun K x qual st f fd) (S : FnScope N ps (defScope st))
    (len : ∀ vs H Q E, sp vs H Q E → vs.length = ps.length)
    (body : ∀ (cdv : Value) (A : Around) (out : List Env) (s : Shared) (H : Hp) (vs : List V) (Q : VK) (E : XK),
      (A.deeper (envOfC qual (defScope st) s.heap.objs.size f cdv)).guards = some [] →
      Room k (A.deeper (envOfC qual (defScope st) s.heap.objs.size f cdv)) → sp vs H Q E →
      ∃ t, PSs (cxOf CX0 P w K mg base N qual (defScope st) f cdv A out s H E).nox (defBody st) t ∧
        t { nx := fun _ H' => Q .non H', rt := Q } (start N vs) H) :
    FnG P w K mg base CX0 (k + 1) f fd ps sp := by
  obtain ⟨oc, od, kV, doc, pm, an, cdv, ct, osl, rfl, lk, hcd⟩ := F.ex
  refine ⟨len, fun A out s H ar us vs Q E hg hr e0 hb r hs => ?_⟩
  refine LamX.run_ofS lk hcd S hr e0 hb r (len _ _ _ _ hs) fun hr' => ?_
  obtain ⟨t, h1, h2⟩ := body cdv A out s H vs Q E hg hr' hs
  exact ⟨t, h1.nox, h2⟩
section
variable {X : Cx} {CX : CXT} {k : Nat} {f : Addr} {fd : FuncData} {ps : List Str} {sp : Sp} {E : XK}
  {x : Str} {p pos : Pos} {e : Expr} {es : List Expr} {t : TA}
theorem runG {pins : List (Addr × Obj)} {σ : L2.St} {H : Hp} {s : Shared} {Q : VK} {us : List Value}
    {vs : List V} (F : FnG X.prog X.w X.K X.mg X.base CX k f fd ps sp) (gd : X.A.guards = some [])
    (hr : Room k X.A) (hb : Binds X.K fd ps []) (hx : Passes CX X E) (I : Inv X pins σ H s) (r : Vals vs us)
    (h : sp vs H Q E) : wpAny (model X.prog X.w) X.A (call (.ref f) us) (EP X pins σ Q) X.xe s := by
  have n : (us ++ ([] : List Value)).length = ps.length := by
    rw [List.append_nil, ← r.length]
    exact F.len _ _ _ _ h
  have b := hb s us I.kIn n
  rw [List.append_nil] at b
  refine wpAny_call (codeAny_mono (F.go X.A X.stack s H ⟨us, []⟩ us vs Q E gd hr I.env0 b r h) fun res s2 done => ?_)
  rcases res with er | fl
  · exact hx pins σ H s er s2 I done
  · cases fl with
    | ret u => exact I.after done
    | _ => exact False.elim done
theorem pe_callG (F : FnG X.prog X.w X.K X.mg X.base CX k f fd ps sp) (gd : X.A.guards = some [])
    (hr : Room k X.A) (hg : Gl X x) (hm : X.mg x = some (.ref f)) (hk : PySem.W.keepIn X.K (.ref f) = true)
    (hb : Binds X.K fd ps []) (hx : Passes CX X E) (ha : PA X (e :: es) t)
    (hdb : (x == ("__debug__" : Str)) = false := by decide)
    (he : starEach (e :: es) X.env = (false, eval e X.env) :: starEach es X.env := by rfl)
    (hpl : (backTo pos (starEach es X.env)).any (·.1) = false := by rfl) :
    PE X (.Call (.Name x p) (e :: es) [] pos) (tCall sp [] E t) := by
  constructor
  intro pins s σ H Q I h
  refine wpAny_Call_Name_kw (ld_glob I hg hm ?_ hdb)
  refine PySem.W.callWith_K (h₀ := X.base) I.ok.mod.kin hk ?_ he hpl
  refine thn (ha.run pos pins s σ H _ I h) ?_
  rintro us s1 ⟨vs, H1, I1, r, q⟩
  refine ⟨I1.kIn, runG F gd hr hb hx I1 r ?_⟩
  have z : vs ++ ([] : List V) = vs := List.append_nil vs
  have q' : sp (vs ++ []) H1 Q E := q
  rw [z] at q'
  exact q'
end
/-- the law's call at the very caller, tables of code objects told -/
theorem law_callG {P : Program} {w : World} {K : PySem.W.Frag} {mg mb : Str → Option Value} {k : Nat}
    {fa a : Addr} {cs : List (Addr × Addr)} {fd : FuncData} {x : Str} {sp : Sp} {s₁ : Shared} {vs : List Value}
    {ns : List Int} (KX : K.In s₁.heap) (hns : s₁.heap.Ns mainGlobals mg) (hb : s₁.heap.Ns builtinsNs mb)
    (hbb : ∀ x : Str, x ≠ "__name__" → mb x = bootBuiltins x) (hlim : s₁.heap.NoLimit) (hg : s₁.gens = #[])
    (hT : ∀ p ∈ cs, s₁.heap.get? p.2 = some { cls := .none, data := .fields #[] })
    (nT : ∀ p ∈ cs, K.lookup p.2 = none) (C : ∀ p ∈ cs, PySem.W.CodeHd s₁.heap p.1 p.2)
    (hbm : ∃ (bm : Addr) (ob : Obj), mg "__builtins__" = some (.ref bm) ∧ bm ≠ builtinsNs ∧ s₁.heap.get? bm = some ob ∧
      ob.cls = .type "module" ∧ ob.dict = some builtinsNs ∧ ob.data = .plain)
    (ha : s₁.heap.get? a = some { cls := .type "list", data := .seq vs.toArray }) (hi : IntsAre vs ns)
    (hl : ns.length ≤ sizeLine) (hr : Room k callerA)
    (F : ∀ base : Heap, K.In base → base.Ns mainGlobals mg → (∀ p ∈ cs, LamX.TabB base mg p.1 p.2) →
      FnG P w K mg base CX0 k fa fd [x] sp)
    (hbind : ∀ (s : Shared) (u : Value), BindsTo s fd ⟨[u], []⟩ [(x, u)])
    (hsp : ∀ H : Hp, (∀ p ∈ cs, H p.2 = some (.tbl #[])) → SqL K H a (ns.map V.int) →
      sp [.ref a] H (fun v _ => v = .bl true) fun _ _ _ => False) :
    codeAny (model P w) callerA (.call (.ref fa) ⟨[.ref a], []⟩)
      (fun r s' => r = .ok (.ret (.bool true)) ∧ OldK s₁.heap s'.heap ∧ s'.os = s₁.os ∧ AllBare s'.gens) s₁ := by
  have rv := vals_ints hi
  have nvs := hi.length
  let tb : List Addr := cs.map (·.2)
  have tb_of : ∀ {p}, p ∈ cs → p.2 ∈ tb := fun {p} hp => List.mem_map.mpr ⟨p, hp, rfl⟩
  have tbE : ∀ {b}, b ∈ tb → s₁.heap.get? b = some { cls := .none, data := .fields #[] } := fun {b} hb => by
    obtain ⟨p, hp, e⟩ := List.mem_map.mp hb
    exact e ▸ hT p hp
  have aNt : a ∉ tb := fun z => by
    have q := (tbE z).symm.trans ha
    have q2 : Data.fields #[] = Data.seq vs.toArray _ := congrArg Obj.data (Option.some.inj q)
    exact nomatch q2
  let frz : HO := .frz { cls := .type "list", data := .seq vs.toArray } (.lst (ns.map V.int))
  let H : Hp := fun b => if b ∈ tb then some (.tbl #[]) else if b = a ∧ K.lookup a = none then some frz else none
  have H_tb : ∀ {b}, b ∈ tb → H b = some (.tbl #[]) := fun {b} hb => if_pos hb
  have H_cases : ∀ b o, H b = some o → (b ∈ tb ∧ o = .tbl #[]) ∨ (b = a ∧ K.lookup a = none ∧ o = frz) := fun b o e => by
    by_cases h1 : b ∈ tb
    · exact .inl ⟨h1, (Option.some.inj ((H_tb h1).symm.trans e)).symm⟩
    · have e1 : (if b = a ∧ K.lookup a = none then some frz else none) = some o := (if_neg h1).symm.trans e
      by_cases h2 : b = a ∧ K.lookup a = none
      · rw [if_pos h2] at e1
        exact .inr ⟨h2.1, h2.2, (Option.some.inj e1).symm⟩
      · rw [if_neg h2] at e1
        cases e1
  have okA : ObjOk P w H s₁.heap a frz := ⟨ha, by rw [List.length_map]; exact hl, vs, _, rv, ha⟩
  have hok : HOk P w H s₁.heap := fun b o e => by
    rcases H_cases b o e with ⟨h1, rfl⟩ | ⟨rfl, _, rfl⟩
    · exact tbE h1
    · exact okA
  have hS : SqL K H a (ns.map V.int) := by
    cases hk : K.lookup a with
    | none => exact .inl (.inr ⟨_, (if_neg aNt).trans (if_pos ⟨rfl, hk⟩)⟩)
    | some o =>
      have e := KX a o hk
      rw [ha] at e
      cases e
      exact .inr ⟨_, vs.toArray, _, hk, rfl, rfl, rfl, by rw [List.size_toArray, nvs]; exact hl, by simpa using rv⟩
  -- what is no seq and no empty fields is not tracked
  have off : ∀ {b : Addr} {o : Obj}, s₁.heap.get? b = some o → (∀ vs n, o.data ≠ .seq vs n) → o.data ≠ .fields #[] → H b = none := fun {b o} e h1 h2 => by
    cases q : H b with
    | none => rfl
    | some u =>
      rcases H_cases b u q with ⟨z, _⟩ | ⟨z, _, _⟩
      · rw [tbE z] at e
        cases e
        exact (h2 rfl).elim
      · rw [z, ha] at e
        cases e
        exact (h1 _ _ rfl).elim
  have seen : ∀ {b : Addr} {o : Obj}, s₁.heap.get? b = some o → (∀ vs n, o.data ≠ .seq vs n) → o.data ≠ .fields #[] → (hidT s₁.heap H).get? b = some o := fun e h1 h2 => hidT_get e (off e h1 h2)
  have seenNs : ∀ {b : Addr} {m : Str → Option Value}, s₁.heap.Ns b m → (hidT s₁.heap H).Ns b m := fun {b m} ⟨o, es, ep, e, d, r⟩ =>
    ⟨o, es, ep, seen e (fun _ _ z => by rw [d] at z; exact nomatch z) (fun z => by rw [d] at z; exact nomatch z), d, r⟩
  have kin : K.In (hidT s₁.heap H) := fun b o e => hidT_get (KX b o e) (by
    cases q : H b with
    | none => rfl
    | some u =>
      rcases H_cases b u q with ⟨z, _⟩ | ⟨z, z2, _⟩
      · obtain ⟨p, hp, ep⟩ := List.mem_map.mp z
        have n := nT p hp
        rw [ep, e] at n
        cases n
      · rw [z, z2] at e
        cases e)
  have hM : Mod K mg (hidT s₁.heap H) := by
    obtain ⟨mc, l1, l2⟩ := hlim
    exact ⟨kin, seenNs hns, ⟨mb, seenNs hb, hbb⟩, ⟨mc, seenNs l1, l2⟩⟩
  have TB : ∀ p ∈ cs, LamX.TabB (hidT s₁.heap H) mg p.1 p.2 := fun p hp => by
    have hTp := hT p hp
    constructor
    · obtain ⟨o, us, file, tf, flags, tg, inF, text, tt, e1, r1, r2, r3, rest⟩ := C p hp
      refine ⟨o, us, file, tf, flags, tg, inF, text, tt, seen e1 (fun _ _ z => by rw [r2] at z; exact nomatch z) (fun z => ?_), r1, r2, r3, rest⟩
      rw [r2] at z
      cases z
      simp at r3
    · obtain ⟨bm, ob, b1, b2, b3, b4, b5, b6⟩ := hbm
      refine ⟨bm, ob, b1, b2, fun q => ?_, fun q => ?_, seen b3 (fun _ _ z => by rw [b6] at z; exact nomatch z) (fun z => by rw [b6] at z; exact nomatch z), b4, b5, b6⟩
      · obtain ⟨o, es, ep, e, hd, _⟩ := hns
        rw [q, e] at b3
        cases b3
        rw [hd] at b6
        cases b6
      · rw [q, hTp] at b3
        cases b3
        cases b6
    · intro z
      obtain ⟨o, es, ep, e, hd, _⟩ := hns
      rw [z, hTp] at e
      cases e
      cases hd
  have e0 : Env0 P w K mg (hidT s₁.heap H) callerA [] s₁ H :=
    ⟨rfl, hM, fun _ _ e => of_hidT e, Nat.le_of_eq (hidT_size _ _), trivial, fun b z => absurd (show b ∈ ([] : List Addr) from z) List.not_mem_nil, hok, .of_eq hg⟩
  refine codeAny_mono ((F _ kin (seenNs hns) TB).go callerA [] s₁ H ⟨[.ref a], []⟩ [.ref a] [.ref a] _ _ rfl hr e0 (hbind s₁ (.ref a)) (.cons rfl .nil) (hsp H (fun p hp => H_tb (tb_of hp)) hS)) ?_
  rintro (er | fl) s2 h
  · exact False.elim h
  · obtain ⟨u, rfl⟩ : ∃ u, fl = .ret u := by
      cases fl with
      | ret u => exact ⟨u, rfl⟩
      | _ => exact False.elim h
    obtain ⟨v, H', os, bare, un, hok', r', q⟩ := h
    have q' : v = .bl true := q
    subst q'
    obtain rfl : u = Value.bool true := r'
    have grown : ∀ {b}, b ∈ tb → ∃ more : Array Value, s2.heap.get? b = some { cls := .none, data := .fields more } := fun {b} hb => by
      obtain ⟨more, z⟩ := un.tbls b #[] (H_tb hb)
      exact ⟨_, hok' b _ z⟩
    have kept : ∀ {b o}, b ∉ tb → s₁.heap.get? b = some o → s2.heap.get? b = some o := fun {b o} nb e => by
      cases q : H b with
      | none => exact un.keep b o e q (fun z => nomatch (show b ∈ ([] : List Addr) from z)) (by simp)
      | some u =>
        rcases H_cases b u q with ⟨z, _⟩ | ⟨rfl, _, rfl⟩
        · exact absurd z nb
        · have z2 := un.frzs b _ _ q
          obtain ⟨e2, _⟩ := hok' b _ z2
          rw [ha] at e
          cases e
          exact e2
    refine ⟨rfl, ⟨fun b o e => ?_, fun b o e => ?_⟩, os, bare⟩
    · by_cases hb : b ∈ tb
      · obtain ⟨more, hm⟩ := grown hb
        obtain ⟨p, hp, ep⟩ := List.mem_map.mp hb
        have c1 := ((C p hp).tab (hT p hp)).isCodeTable
        rw [tbE hb] at e
        cases e
        rw [← ep] at hm ⊢
        exact .inr (.inl ⟨c1, rfl, #[], more, rfl, by rw [Array.empty_append]; exact hm⟩)
      · exact .inl (kept hb e)
    · by_cases hb : b ∈ tb
      · obtain ⟨more, hm⟩ := grown hb
        exact ⟨_, hm⟩
      · exact ⟨o, kept hb e⟩
/-- what the head must tell of the law -/
def LawAtG (l : PySem.W.OpenLaw) (w : World) (K : PySem.W.Frag) (k n : Nat) (x : Str) (mg : Str → Option Value) (fa : Addr) (h : Heap) : Prop :=
  ∃ (fd : FuncData) (cs : List (Addr × Addr)) (sp : Sp),
    (∀ p ∈ cs, h.get? p.2 = some { cls := .none, data := .fields #[] } ∧ K.lookup p.2 = none ∧ PySem.W.CodeHd h p.1 p.2) ∧
    (∀ (s : Shared) (u : Value), BindsTo s fd ⟨[u], []⟩ [(x, u)]) ∧
    (∀ (H : Hp) (a : Addr) (ns : List Int), ns.length ≤ n → (∀ z ∈ ns, Builtin.Int.intBits z ≤ 1048576) →
      (∀ p ∈ cs, H p.2 = some (.tbl #[])) → SqL K H a (ns.map V.int) → sp [.ref a] H (fun v _ => v = .bl true) fun _ _ _ => False) ∧
    ∀ base : Heap, K.In base → base.Ns mainGlobals mg → (∀ p ∈ cs, LamX.TabB base mg p.1 p.2) → FnG l.prog w K mg base CX0 k fa fd [x] sp
theorem walk_ofG {l : PySem.W.OpenLaw} {n k : Nat} {q : Program} {loose : List Str} {XP : (Str → Option Value) → Heap → Prop}
    {YP : World → Heap → Prop} {d : DefRec} {K : Params → PySem.W.Frag} {x : Str} (hn : l.most = some n) (hn2 : n ≤ sizeLine)
    (hdf : d.params.defaults = []) (hr : Room k callerA) (hY : ∀ (w : World) (h : Heap), YP w h → (K w.params).In h)
    (F : ∀ (w : World) (mg : Str → Option Value) (fa : Addr) (h : Heap), YP w h → (K w.params).In h → h.Ns mainGlobals mg →
      mg d.name = some (.ref fa) → LawAtG l w (K w.params) k n x mg fa h) :
    PySem.W.WalkO q loose XP YP l.row.toRowW d [] (fun f vs => PySem.call f vs) := by
  refine Att.attach_callB hn hdf fun w s₀ s₁ mg mb fa o pm cd doc a vs ns G Y ho hd hcd hmg hobj hints hlen hbits hg => ?_
  have KX := hY w _ Y
  obtain ⟨fd, cs, sp, hT, hb, hsp, hF⟩ := F w mg fa _ Y KX G.T.g hmg
  exact law_callG KX G.T.g G.T.b G.T.builtins G.T.nolimit hg (fun p hp => (hT p hp).1) (fun p hp => (hT p hp).2.1) (fun p hp => (hT p hp).2.2)
    G.T.bmain hobj hints (Nat.le_trans hlen hn2) hr hF hb (fun H hH hS => hsp H a ns hlen hbits hH hS)
end OH
end
section
set_option Elab.async false
set_option linter.all false
set_option maxRecDepth 100000
set_option maxHeartbeats 2000000
/-! An error that a handler keeps under another name: tracked from there on. -/
namespace OH
open PySem PySem.Spec PyProof.Rows L2
/-- an exception object of the class cls that some name holds -/
def ExI (cls : Value) (a : Addr) : HO := .ext fun h => ∃ (oe : Obj) (vs : Array Value), h.get? a = some oe ∧ Zc cls none oe ∧ oe.data = .fields vs
section
variable {X : Cx} {pins : List (Addr × Obj)} {σ : L2.St} {H : Hp} {s : Shared}
/-- an object that nothing tracked so far is tracked from now on -/
theorem track {a : Addr} {oe : Obj} {o : HO} (I : Inv X pins σ H s) (ha : s.heap.get? a = some oe) (na : H a = none)
    (n0 : X.s_0.heap.get? a = none) (nL : a ≠ X.env.locals) (nc : ∀ v, oe.data ≠ .cell v) (np : ∀ p ∈ X.pn ++ pins, p.1 ≠ a)
    (new : ObjOk X.prog X.w (upd H a o) s.heap a o) : Inv X pins σ (upd H a o) s := by
  have off0 : ∀ {b u}, X.s_0.heap.get? b = some u → b ≠ a := fun {b u} e z => by
    rw [z, n0] at e
    cases e
  have offH : ∀ {b u}, H b = some u → b ≠ a := fun {b u} e => ne_of_none e na
  constructor
  · exact I.ok
  · exact I.os
  · exact I.bare
  · constructor
    · exact I.base.keep
    · exact I.base.slot
    · intro b u e n hx
      exact (upd_ne (off0 e)).trans (I.base.free b u e n hx)
    · exact I.base.there
    · intro b xs e
      have q := I.base.tups b xs e
      exact (upd_ne (offH q)).trans q
    · intro b u v e
      have q := I.base.frzs b u v e
      exact (upd_ne (offH q)).trans q
    · intro b ps e
      obtain ⟨more, q⟩ := I.base.tbls b ps e
      exact ⟨more, (upd_ne (offH q)).trans q⟩
  · exact I.loc
  · exact I.cell
  · exact (upd_ne (Ne.symm nL)).trans I.free
  · intro x c e
    obtain ⟨v, oc, q1, q2⟩ := I.cell x c e
    have z : c ≠ a := fun z => by
      rw [z, ha] at q1
      cases q1
      exact nc _ q2
    exact (upd_ne z).trans (I.freeC x c e)
  · intro p hp
    obtain ⟨p1, p2, p3⟩ := I.pin p hp
    exact ⟨p1, (upd_ne (np p hp)).trans p2, p3⟩
  · intro b u e
    by_cases hb : b = a
    · subst hb
      rw [upd_same] at e
      cases e
      exact new
    · rw [upd_ne hb] at e
      exact (I.hok b u e).stay (fun _ _ _ q => q) (fun c q => (upd_ne (offH q)).trans q) (fun c xs q => (upd_ne (offH q)).trans q)
  · exact I.len
/-- what a handler that keeps its error wishes of an error of the body -/
def wKeep (K : PySem.W.Frag) (c : Value) (i : Nat) (ts : Addr → Value → TS) (D : Ends) : WX := fun cls d σ H =>
  d = none ∧ PySem.W.exmOne K cls c = some true ∧ ∀ a, H a = none →
    ts a cls { nx := fun σ' H' => D.nx (σ'.set i none) (upd H' a (ExI cls a)), rt := fun _ _ => False, bk := fun _ _ => False, ct := fun _ _ => False } (σ.set i (some (.ref a))) H
variable {x n : Str} {c : Value} {i : Nat} {body suite : List Stmt} {b₀ : Stmt} {np pos pos' : Pos} {tb : WX → TS} {ts : Addr → Value → TS}
/-- try: body / except x as n: suite, behind which the error is held -/
theorem ps_try_keep (hs : X.stack = X.env :: X.outer) (hf : X.env.frame = some X.env.locals) (hex : X.ex = []) (hN : X.N.Nodup) (hi : X.N[i]? = some n)
    (hln : X.env.kindOf n = some .local) (hc : Names X x c)
    (hb : ∀ (W : WX) (pn : List (Addr × Obj)) (xe : Value → Shared → Prop), Takes (X.tr pn xe) W → PassesOwn (model X.prog X.w) X.A X.env xe → PSs (X.tr pn xe) body (tb W))
    (hsu : ∀ (a : Addr) (oe : Obj) (cls : Value) (pn : List (Addr × Obj)), Zc cls none oe → (∃ vs, oe.data = .fields vs) → PSs (X.suite a ((a, oe) :: pn)) (b₀ :: suite) (ts a cls)) :
    PS X (.Try body [.ExceptHandler (some (.Name x np)) (some n) (b₀ :: suite) pos'] [] [] pos) (fun D σ H => tb (wKeep X.K c i ts D) D σ H) := by
  constructor
  intro pins s σ H D I h
  have ok := I.ok
  have frm : X.A.frames = some (X.env :: X.outer) := ok.frames.trans (by rw [hs])
  apply wpAny_Try_except
  refine wpAny_mono ((hb (wKeep X.K c i ts D) (X.pn ++ pins)
    (fun e s₁ => wpAny (model X.prog X.w) X.A (noteFrame e X.env)
      (fun _ s₂ => wpAny (model X.prog X.w) X.A (setFlight e none)
        (fun _ s₃ => wpAny (model X.prog X.w) X.A (handleBy e X.env [.ExceptHandler (some (.Name x np)) (some n) (b₀ :: suite) pos']) (SP X pins D) X.xe s₃) X.xe s₂) X.xe s₁)
    ?took PassesOwn.looking).run [] s σ H D (I.toTry _) h) ?went (fun _ _ he => he)
  case went =>
    rintro (_ | _ | _ | u) s1 hsp
    · obtain ⟨σ', H', J, q⟩ := hsp
      exact wpAny_execs_nil ⟨σ', H', J.ofTry ok, q⟩
    · obtain ⟨σ', H', J, q⟩ := hsp
      exact ⟨σ', H', J.ofTry ok, q⟩
    · obtain ⟨σ', H', J, q⟩ := hsp
      exact ⟨σ', H', J.ofTry ok, q⟩
    · obtain ⟨v, σ', H', J, r, q⟩ := hsp
      exact ⟨v, σ', H', J.ofTry ok, r, q⟩
  case took =>
    rintro u s' ⟨a, B, sI, pins', σ', H', cls, d, rfl, J', nb, up, sky, na, os, ag, rfl, hm1, hyes⟩
    have J : Inv X pins σ' H' sI := J'.ofTry ok
    rw [show (X.tr (X.pn ++ pins) _).stack = X.env :: X.outer from hs] at sky
    show wpAny (model X.prog X.w) X.A (noteFrame (.ref a) X.env) _ _ _
    refine Sky.land Zc.steady frm hf sky fun h3 fl3 up3 => ?_
    obtain ⟨oe3, vs3, he3, hz3, hd3⟩ := fl3.there
    have Ba : B.get? a = none := fl3.2.1
    have aNf : a ∉ frs (X.env :: X.outer) := fun hm => by
      obtain ⟨_, o', e', hnf⟩ := fl3.2.2.1.mem hm
      rw [he3] at e'
      cases e'
      exact hnf _ hd3
    have aNs : a ∉ frs X.stack := by
      rw [hs]
      exact aNf
    have nL : a ≠ X.env.locals := fun z => aNf (List.mem_filterMap.mpr ⟨X.env, List.mem_cons_self, hf.trans (congrArg some z.symm)⟩)
    have nF : a ∉ X.fs := fun hm => by
      obtain ⟨en, he, q⟩ := List.mem_filterMap.mp hm
      exact aNf (List.mem_filterMap.mpr ⟨en, List.mem_cons_of_mem _ he, q⟩)
    have gI : sI.heap.get? a = none := by
      cases e : sI.heap.get? a with
      | none => rfl
      | some o => exact absurd ((nb a o e aNs).symm.trans Ba) (fun z => nomatch z)
    have g0 : X.s_0.heap.get? a = none := by
      cases e : X.s_0.heap.get? a with
      | none => rfl
      | some o =>
        obtain ⟨o', q⟩ := J.base.there a o e (by rw [hex]; exact List.not_mem_nil)
        rw [gI] at q
        cases q
    have pNa : ∀ p ∈ X.pn ++ pins, p.1 ≠ a := fun p hp z => by
      have q := (J.pin p hp).1
      rw [z, gI] at q
      cases q
    have J3 : Inv X pins σ' H' { s' with heap := h3 } := J.landed nb fl3.1 (up.trans up3) os ag
    have S3 := J3.suite he3 hd3 na nL nF
    refine wpAny_handleBy_cons (codeAny_handlers_test ?_) (by intro q; cases q)
    have tyA : PySem.W.Looks (model X.prog X.w) h3 (typeOf (.ref a)) cls := fun A Q E s k q => wpAny_typeOf_ref (k _ _ he3) (by rw [hz3.1]; exact q)
    have fit := PySem.W.exm_one (M := model X.prog X.w) J3.kIn tyA hm1
    have named : ∀ {Q : Value → Shared → Prop} {E : Value → Shared → Prop}, Q c { s' with heap := h3 } →
        wpAny (model X.prog X.w) (X.A.mark (some (.ref a))) (eval (.Name x np) X.env) Q E { s' with heap := h3 } := fun {Q E} q => by
      obtain ⟨hg, hdbg, hm | ⟨hm, hv, hnn⟩⟩ := hc
      · exact ld_glob (X := X.suite a ((a, oe3) :: (X.pn ++ pins))) S3 hg hm q hdbg
      · exact ld_blt (X := X.suite a ((a, oe3) :: (X.pn ++ pins))) S3 hg hm hv q hnn hdbg
    refine named (fit.here ?_)
    refine codeAny_handlers_suite_as ?_
    refine HandSPX.lands_againZ fl3 fun h4 fl4 up4 => ?_
    obtain ⟨oe4, vs4, he4, hz4, hd4⟩ := fl4.there
    have J4 : Inv X pins σ' H' { s' with heap := h4 } := J.landed nb fl4.1 ((up.trans up3).trans up4) os ag
    have S4 := J4.suite he4 hd4 na nL nF
    refine store_ok (X := X.suite a ((a, oe4) :: (X.pn ++ pins))) (v := .ref a) S4 hN hi (Or.inl hln) rfl (fun s5 S5 => ?_) (.inr hln)
    refine wpAny_mono ((hsu a oe4 cls (X.pn ++ pins) hz4 ⟨_, hd4⟩).run [] s5 _ H' _ S5 (hyes a na)) ?_ (fun _ _ z => False.elim z)
    rintro (_ | _ | _ | u) s6 hsp
    · obtain ⟨σ6, H6, S6, q6⟩ := hsp
      obtain ⟨g6, n6, _⟩ := S6.pin (a, oe4) (List.mem_append_left _ List.mem_cons_self)
      have T6 := track (o := ExI cls a) (S6.unsuite ok) g6 n6 g0 nL (fun v z => nomatch (hd4.symm.trans z)) pNa
        ⟨⟨oe4, vs4, g6, hz4, hd4⟩, ⟨oe4, g6⟩, fun _ _ ⟨o, v, q, r⟩ k => ⟨o, v, k o q, r⟩⟩
      exact gone_ok T6 hN hi hln fun s7 J7 => ⟨_, _, J7, q6⟩
    all_goals
      first
        | (obtain ⟨_, _, _, q6⟩ := hsp; exact False.elim q6)
        | (obtain ⟨_, _, _, _, _, q6⟩ := hsp; exact False.elim q6)
/-- isinstance(e, c), e an error that is held -/
theorem call_isH {D : Addr} (C : ExcC X.K D) : CallR X (.builtin "isinstance") (fun xs H Q => ∃ (a : Addr) (c : V) (cv : Value) (b : Bool),
    xs = [.ref a, c] ∧ H a = some (ExI (.ref D) a) ∧ (∀ u, RelV c u → u = cv) ∧ PySem.W.kitOne X.K (.ref D) cv = some b ∧ Q (.bl b) H) := by
  rintro pins s σ H xs us Q I r ⟨a, c, cv, b, rfl, hA, hcv, e, q⟩
  obtain ⟨⟨oe, vs, g, hz, hd⟩, _, _⟩ := I.hok a _ hA
  rcases r with _ | ⟨rx, rr⟩
  rcases rr with _ | ⟨rt, rr⟩
  cases rr
  obtain rfl : _ = Value.ref a := rx
  obtain rfl := hcv _ rt
  obtain ⟨oc, od, oda, osl⟩ := oe
  obtain ⟨z1, z2⟩ := hz
  dsimp only at z1 z2 hd
  subst z1 z2 hd
  have at_ : PySem.W.InstAt s.heap a ⟨.ref D, none, .fields vs, osl⟩ D none := ⟨g, rfl, rfl, trivial⟩
  exact PySem.W.kia_one (PySem.W.handS_kitx_exc C.hg C.hk C.hs C.hd C.ha C.hn C.ht C.hm) I.kIn at_ e (fun z => nomatch z)
    fun tk => ⟨.bl b, H, I.kept (t' := tk) fun _ _ z => z, rfl, q⟩
/-- told: found = None / try: a() / except x as e: found = e / return found -/
def TTk (K : PySem.W.Frag) (CS : Addr) : (XK → Hp → VK → Prop) → Hp → VK → Prop := fun tl H Q => ∀ Q' : VK, (∀ v H1, Q .non H1 → Q' v H1) →
  tl (fun cls d H' => d = none ∧ PySem.W.exmOne K cls (.ref CS) = some true ∧ ∀ a, H' a = none → Q (.ref a) (upd H' a (ExI cls a))) H Q'
end
end OH
end
section
set_option Elab.async false
set_option linter.all false
set_option maxRecDepth 100000
set_option maxHeartbeats 4000000
namespace OH
open PySem PySem.Spec PyProof.Rows L2
def top (i : Nat) : Stmt := PySem.Challenge.pw_ownharm_k61_texts_of_rows_and_the_first.main.body.getD i (.Pass ⟨0, 0, 0, 0⟩)
abbrev s_BadText___init__ : Stmt := inClass (top 3) 0
abbrev s_are_digits : Stmt := top 7
abbrev s_is_written_whole : Stmt := top 8
abbrev s_RowWalk___init__ : Stmt := inClass (top 12) 0
abbrev s_RowWalk_fields : Stmt := inClass (top 12) 1
abbrev s_RowWalk_can_follow : Stmt := inClass (top 12) 2
abbrev s_RowWalk_take : Stmt := inClass (top 12) 3
abbrev s_is_field : Stmt := top 13
abbrev s_good_row : Stmt := top 14
abbrev s_need_row : Stmt := top 16
abbrev s_row_text : Stmt := top 19
abbrev s_is_told : Stmt := top 20
abbrev s_crossing_told : Stmt := top 21
abbrev s_row_of : Stmt := top 22
abbrev s__law_begun : Stmt := top 24
abbrev s__law_mixed : Stmt := top 25
abbrev s__law_draw : Stmt := top 26
abbrev s__law_pick : Stmt := top 27
abbrev s__law_shuffled : Stmt := top 28
abbrev s__law_small : Stmt := top 29
abbrev s__law_caught : Stmt := top 30
abbrev s__law_drawn_face : Stmt := top 31
abbrev s__law_open_face : Stmt := top 32
abbrev s__law_next : Stmt := top 33
abbrev s__law_behind : Stmt := top 34
abbrev s__law_few : Stmt := top 35
abbrev s__law_drawn_row : Stmt := top 36
abbrev s__law_long_row : Stmt := top 37
abbrev s__law_own_text : Stmt := top 38
abbrev s__law_is_worth : Stmt := top 39
abbrev s__law_lines_words : Stmt := top 40
abbrev s__law_wrong_word : Stmt := top 41
abbrev s__law_read : Stmt := top 42
abbrev s__law_changed : Stmt := top 43
abbrev s__law_answer_holds : Stmt := top 44
abbrev s__law_large_hold : Stmt := top 45
abbrev s_law : Stmt := top 46
end OH
end
section
set_option Elab.async false
set_option linter.all false
set_option maxRecDepth 100000
set_option maxHeartbeats 8000000
namespace OH
open PySem PySem.Spec PyProof.Rows L2
/-- what stands at the addresses outside S stays -/
def Kept (S : List Addr) (H H' : Hp) : Prop := ∀ q o, H q = some o → q ∉ S → H' q = some o
theorem Kept.refl {S : List Addr} {H : Hp} : Kept S H H := fun _ _ e _ => e
theorem Kept.trans {S : List Addr} {H H' H2 : Hp} (a : Kept S H H') (b : Kept S H' H2) : Kept S H H2 := fun q o e n => b q o (a q o e n) n
theorem Kept.mono {S T : List Addr} {H H' : Hp} (a : Kept S H H') (h : ∀ q ∈ S, q ∈ T) : Kept T H H' := fun q o e n => a q o e fun z => n (h q z)
theorem Kept.upd {S : List Addr} {H H' : Hp} (a : Kept S H H') {p : Addr} {o : HO} (hp : p ∈ S) : Kept S H (upd H' p o) := fun q u e n => by
  have ne : q ≠ p := fun z => n (by rw [z]; exact hp)
  rw [upd_ne ne]
  exact a q u e n
theorem Kept.new {S : List Addr} {H H' : Hp} (a : Kept S H H') {p : Addr} {o : HO} (hp : H' p = none) : Kept S H (L2.upd H' p o) := fun q u e n => by
  have e1 := a q u e n
  rw [upd_ne (ne_of_none e1 hp)]
  exact e1
theorem Kept.same {S : List Addr} {H H' H2 : Hp} (a : Kept S H H') (b : Same H' H2) : Kept S H H2 := fun q u e n => b _ _ (a q u e n)
/-- pairs of whole numbers at addresses -/
inductive PairsAt (H : Hp) : List Addr → List (Int × Int) → Prop where
  | nil : PairsAt H [] []
  | cons {p : Addr} {q : Int × Int} {ps : List Addr} {ws : List (Int × Int)} : H p = some (.tup [.int q.1, .int q.2]) → PairsAt H ps ws → PairsAt H (p :: ps) (q :: ws)
theorem PairsAt.mono {H H' : Hp} {ps : List Addr} {ws : List (Int × Int)} (h : PairsAt H ps ws) (k : ∀ q xs, H q = some (.tup xs) → H' q = some (.tup xs)) : PairsAt H' ps ws := by
  induction h with
  | nil => exact .nil
  | cons a _ ih => exact .cons (k _ _ a) ih
def pairD (q : Int × Int) : PyData := .tuple [.int q.1, .int q.2]
theorem PairsAt.dp {K : PySem.W.Frag} {H : Hp} {ps : List Addr} {ws : List (Int × Int)} (h : PairsAt H ps ws) : DpAll K H (ps.map V.ref) (ws.map pairD) := by
  induction h with
  | nil => exact .nil
  | cons a _ ih => exact .cons (.tup (SqT.of a) (.cons (.int _) (.cons (.int _) .nil))) ih
theorem op_inDT {X : Cx} (hu : X.A.units + 65 < cLine) : OpR X (compareOp .In) (fun x y H Q => ∃ d ds, Dp X.K H x d ∧ Dp X.K H y (.tuple ds) ∧ SeqAt.shaped d = true ∧ SeqAt.shaped (.list ds) = true ∧ Q (.bl (ds.any fun z => PyData.eqv z d)) H) := by
  intro pins s σ H x y v u Q I rx ry h
  obtain ⟨d, ds, hd, he, sd, se, q⟩ := h
  obtain ⟨as, r1⟩ := Dp.reads I d x v hd rx
  obtain ⟨bs, r2⟩ := Dp.reads I (.tuple ds) y u he ry
  exact SeqAt.in_tuple_reads r2 r1 (SeqAt.canLay_of_shaped se) (SeqAt.canLay_of_shaped sd) (room_in_shaped sd hu) ⟨.bl (ds.any fun y => y.eqv d), H, I, rfl, q⟩
theorem any_pair (ws : List (Int × Int)) (a b : Int) : ((ws.map pairD).any fun z => PyData.eqv z (pairD (a, b))) = decide ((a, b) ∈ ws) := by
  induction ws with
  | nil => rfl
  | cons w ws ih =>
    obtain ⟨c, d⟩ := w
    rw [List.map_cons, List.any_cons, ih]
    have e : PyData.eqv (pairD (c, d)) (pairD (a, b)) = (decide (c = a) && decide (d = b)) := by
      show (decide (c = a) && (decide (d = b) && true)) = _
      rw [Bool.and_true]
    rw [e]
    by_cases e1 : (c, d) = (a, b)
    · cases e1
      rw [decide_eq_true rfl, decide_eq_true rfl, decide_eq_true (List.mem_cons_self ..)]
      rfl
    · have ez : (decide (c = a) && decide (d = b)) = false := by
        by_cases z : c = a
        · by_cases z2 : d = b
          · exact absurd (by rw [z, z2]) e1
          · rw [decide_eq_false z2, Bool.and_false]
        · rw [decide_eq_false z]
          rfl
      rw [ez, Bool.false_or]
      by_cases m : (a, b) ∈ ws
      · rw [decide_eq_true m, decide_eq_true (List.mem_cons_of_mem _ m)]
      · rw [decide_eq_false m, decide_eq_false (fun z => (List.mem_cons.mp z).elim (fun y => e1 y.symm) m)]
theorem shaped_pair (a b : Int) : SeqAt.shaped (pairD (a, b)) = true := by rfl
theorem shaped_pairs (ws : List (Int × Int)) : SeqAt.shaped (.list (ws.map pairD)) = true := by
  have h1 : PyData.canLayAll0 (ws.map pairD) = true := by
    induction ws with
    | nil => rfl
    | cons w ws ih =>
      show (true && PyData.canLayAll0 (ws.map pairD)) = true
      rw [ih]
      rfl
  have h2 : PyData.depthAll (ws.map pairD) ≤ 1 := by
    clear h1
    induction ws with
    | nil => exact Nat.zero_le _
    | cons w ws ih =>
      show max (PyData.depth (pairD w)) (PyData.depthAll (ws.map pairD)) ≤ 1
      exact Nat.max_le.mpr ⟨Nat.le_refl 1, ih⟩
  show (PyData.canLayAll0 (ws.map pairD) && decide (PyData.depthAll (ws.map pairD) + 1 ≤ 64)) = true
  rw [h1, decide_eq_true (by omega)]
  rfl
theorem sadd {H H' : Hp} (s : Same H H') {p : Addr} {o : HO} (n : H' p = none) : Same H (upd H' p o) := fun b u e => by
  have e1 := s b u e
  rw [upd_ne (ne_of_none e1 n)]
  exact e1
theorem Room_u65 {k : Nat} {A : Around} (h : L2.Room k A) : A.units + 65 < cLine := by
  have := h.un
  omega
/-- the names of the top and of the built-ins that the text reads -/
structure Txt (K : PySem.W.Frag) (mg : Str → Option Value) : Prop where
  nIsi : mg "isinstance" = none
  nInt : mg "int" = none
  nBool : mg "bool" = none
  nTuple : mg "tuple" = none
  nStr : mg "str" = none
  nLen : mg "len" = none
  nAll : mg "all" = none
  nList : mg "list" = none
  nAbs : mg "abs" = none
  nRange : mg "range" = none
  nZip : mg "zip" = none
  nSorted : mg "sorted" = none
  nRepr : mg "repr" = none
/-- a value that the law hands to the program -/
def PlV (H : Hp) : V → Prop
  | .non => True
  | .bl _ => True
  | .int _ => True
  | .str _ => True
  | .ref a => (∃ xs, H a = some (.tup xs)) ∨ (∃ xs, H a = some (.lst xs))
  | _ => False
theorem PlV.same {H H' : Hp} {v : V} (h : PlV H v) (e : Same H H') : PlV H' v := by
  cases v with
  | ref a =>
    rcases h with ⟨xs, h⟩ | ⟨xs, h⟩
    · exact .inl ⟨xs, e _ _ h⟩
    · exact .inr ⟨xs, e _ _ h⟩
  | byt _ => exact h.elim
  | flt _ => exact h.elim
  | ty _ => exact h.elim
  | _ => trivial
/-- the name of its type -/
def tyn (H : Hp) : V → String
  | .non => "NoneType"
  | .bl _ => "bool"
  | .int _ => "int"
  | .str _ => "str"
  | .ref a => match H a with
    | some (.tup _) => "tuple"
    | _ => "list"
  | _ => "list"
theorem tyX {K : PySem.W.Frag} {H : Hp} {v : V} (h : PlV H v) : TyX K H v (.type (tyn H v)) := by
  cases v with
  | non => exact .base .non
  | bl b => exact .base (.bl b)
  | int i => exact .base (.int i)
  | str x => exact .base (.str x)
  | ref a =>
    rcases h with ⟨xs, h⟩ | ⟨xs, h⟩
    · have e : tyn H (.ref a) = "tuple" := by
        show (match H a with | some (.tup _) => "tuple" | _ => "list") = "tuple"
        rw [h]
      rw [e]
      exact .base (.tup h)
    · have e : tyn H (.ref a) = "list" := by
        show (match H a with | some (.tup _) => "tuple" | _ => "list") = "list"
        rw [h]
      rw [e]
      exact .base (.lst h)
  | _ => exact h.elim
/-- a whole from lo to hi -/
def isW (lo hi : Int) : V → Bool
  | .int i => decide (lo ≤ i) && decide (i ≤ hi)
  | _ => false
def spWhole : Sp := fun vs H Q _ => ∃ (v : V) (lo hi : Int), vs = [v, .int lo, .int hi] ∧ PlV H v ∧ Q (.bl (isW lo hi v)) H
/-- a tuple of lo to hi items -/
def isT (H : Hp) (lo hi : Int) : V → Bool
  | .ref a => match H a with
    | some (.tup xs) => decide (lo ≤ (xs.length : Int)) && decide ((xs.length : Int) ≤ hi)
    | _ => false
  | _ => false
def spTuple : Sp := fun vs H Q _ => ∃ (v : V) (lo hi : Int), vs = [v, .int lo, .int hi] ∧ PlV H v ∧ Q (.bl (isT H lo hi v)) H
section
variable {P : Program} {w : World} {K : PySem.W.Frag} {mg : Str → Option Value} {base : Heap}
end
theorem _root_.L2.Same.none {H H' : Hp} {p : Addr} (s : Same H H') (n : H' p = none) : H p = none := by
  cases q : H p with
  | none => rfl
  | some o =>
    have := s _ _ q
    rw [n] at this
    cases this
theorem isW_of {n : Int} (h0 : 0 ≤ n) (h1 : n ≤ 9999) : isW 0 9999 (.int n) = true := by
  show (decide (0 ≤ n) && decide (n ≤ 9999)) = true
  rw [decide_eq_true h0, decide_eq_true h1]
  rfl
/-- an error class of the program -/
structure ErrC (K : PySem.W.Frag) (mg : Str → Option Value) (x : Str) (C : Addr) : Prop where
  g : mg x = some (.ref C)
  x : PySem.W.excIn K C [.type "ValueError", .type "Exception", .type "BaseException", .type "object"] "ValueError.__new__" = true
  k : PySem.W.keepIn K (.ref C) = true
  b : PySem.W.subIn K (.ref C) (.type "BaseException") = some true
  t : PySem.W.typeIn K (.ref C) = some (.type "type")
end OH
end
section
set_option Elab.async false
set_option linter.all false
set_option maxRecDepth 100000
set_option maxHeartbeats 8000000
namespace OH
open PySem PySem.Spec PyProof.Rows L2
def stK (g c : Addr) (r t : Int) : List (Key × V) := [(.inr "great", .ref g), (.inr "cells", .ref c), (.inr "rest", .int r), (.inr "turn", .int t)]
theorem st_great (g c : Addr) (r t : Int) : valV (stK g c r t) (.inr "great" : Key) = some (.ref g) := rfl
theorem st_cells (g c : Addr) (r t : Int) : valV (stK g c r t) (.inr "cells" : Key) = some (.ref c) := rfl
theorem st_rest (g c : Addr) (r t : Int) : valV (stK g c r t) (.inr "rest" : Key) = some (.int r) := rfl
theorem st_turn (g c : Addr) (r t : Int) : valV (stK g c r t) (.inr "turn" : Key) = some (.int t) := rfl
theorem st_put_rest (g c : Addr) (r t z : Int) : putK (stK g c r t) (.inr "rest" : Key) (.int z) = stK g c z t := rfl
theorem st_put_turn (g c : Addr) (r t z : Int) : putK (stK g c r t) (.inr "turn" : Key) (.int z) = stK g c r z := rfl
theorem st_made (g c : Addr) : mergeK ([] : List (Key × V)) [(.inr "great", .ref g), (.inr "cells", .ref c), (.inr "rest", .int 0), (.inr "turn", .int 0)] = stK g c 0 0 := rfl
/-- the state of the drawing: the dict at st, its lists at g and c; at most n draws were mixed -/
structure SA (H : Hp) (st g c : Addr) (n : Nat) : Prop where
  dc : ∃ r t : Int, 0 ≤ r ∧ 0 ≤ t ∧ t ≤ n ∧ H st = some (.dK (stK g c r t))
  gl : ∃ gs : List Int, H g = some (.lst (gs.map V.int)) ∧ (∀ z ∈ gs, 0 ≤ z) ∧ gs.length ≤ 63
  cl : ∃ cs : List Int, H c = some (.lst (cs.map V.int)) ∧ (∀ z ∈ cs, 0 ≤ z) ∧ cs.length ≤ 63
  gc : g ≠ c
/-- all that was tracked is as it was, but the state's dict and its list of greats -/
def Fr (st g : Addr) (H H' : Hp) : Prop := ∀ b o, H b = some o → b ≠ st → b ≠ g → H' b = some o
theorem Fr.refl (st g : Addr) (H : Hp) : Fr st g H H := fun _ _ e _ _ => e
theorem Fr.trans {st g : Addr} {H H1 H2 : Hp} (a : Fr st g H H1) (b : Fr st g H1 H2) : Fr st g H H2 := fun c o e h1 h2 => b c o (a c o e h1 h2) h1 h2
theorem Fr.of {st g : Addr} {H H' : Hp} (a : Same H H') : Fr st g H H' := fun b o e _ _ => a b o e
theorem SA.same {H H' : Hp} {st g c : Addr} {n : Nat} (s : SA H st g c n) (e : Same H H') : SA H' st g c n := by
  obtain ⟨⟨r, t, h1, h2, h3, h4⟩, ⟨gs, g1, g2, g3⟩, ⟨cs, c1, c2, c3⟩, gc⟩ := s
  exact ⟨⟨r, t, h1, h2, h3, e _ _ h4⟩, ⟨gs, e _ _ g1, g2, g3⟩, ⟨cs, e _ _ c1, c2, c3⟩, gc⟩
theorem SA.mono {H : Hp} {st g c : Addr} {n m : Nat} (s : SA H st g c n) (h : n ≤ m) : SA H st g c m := by
  obtain ⟨⟨r, t, h1, h2, h3, h4⟩, x, y, z⟩ := s
  exact ⟨⟨r, t, h1, h2, by omega, h4⟩, x, y, z⟩
theorem SA.ne_st {H : Hp} {st g c b : Addr} {n : Nat} {o : HO} (s : SA H st g c n) (e : H b = some o) (h : ∀ kvs, o ≠ .dK kvs) : b ≠ st := by
  obtain ⟨⟨r, t, _, _, _, h4⟩, _⟩ := s
  exact ne_of e h4 (h _)
theorem SA.old {H : Hp} {st g c p : Addr} {n : Nat} (s : SA H st g c n) (e : H p = none) : p ≠ st ∧ p ≠ g ∧ p ≠ c := by
  obtain ⟨⟨r, t, _, _, _, h4⟩, ⟨gs, g1, _⟩, ⟨cs, c1, _⟩, _⟩ := s
  exact ⟨(ne_of_none h4 e).symm, (ne_of_none g1 e).symm, (ne_of_none c1 e).symm⟩
theorem sout {H H' : Hp} (s : Same H H') {p : Addr} {o : HO} (n : H p = none) : Same H (upd H' p o) := fun b u e => by
  rw [upd_ne (ne_of_none e n)]
  exact s b u e
def spBegun (K : PySem.W.Frag) : Sp := fun vs H Q _ => ∃ (a : Addr) (ns : List Int), vs = [.ref a] ∧ SqL K H a (ns.map V.int) ∧ ns.length ≤ 63 ∧
  ∀ st g c H', H st = none → H g = none → H c = none → Same H H' → SA H' st g c 0 → Q (.ref st) H'
section
variable {P : Program} {w : World} {K : PySem.W.Frag} {mg : Str → Option Value} {base : Heap}
theorem scBegun : FnScope ["script", "great", "cell"] ["script"] (defScope s__law_begun) := ⟨rfl, rfl, rfl, by decide +kernel, rfl, by decide +kernel, by decide +kernel⟩
theorem ok_begun {f : Addr} {fd : FuncData} (F : Fun K "_law_begun" "_law_begun" s__law_begun f fd) (T : Txt K mg) : FnOk P w K mg base CX0 1 f fd ["script"] (spBegun K) := by
  refine F.ok scBegun (fun vs H Q E h => ?_) (fun cdv A outer s H vs Q E hr h => ?_)
  · obtain ⟨a, ns, rfl, _⟩ := h
    rfl
  · obtain ⟨a, ns, rfl, hS, hl, k⟩ := h
    have nd := scBegun.nd
    refine ⟨_, pss_cons (ps_setLc (i := 1) (own := [("cell", 2)]) (g := gName 2) rfl nd rfl rfl (sw_true rfl rfl rfl (by decide +kernel)) (pi_list (pv 0))
        (blkOk_by (own := [("cell", 2)]) (N := ["script", "great", "cell"]) (sc := defScope s__law_begun) (by decide +kernel))
        (fun _ _ _ _ _ => pg_name (i := 2) nd rfl (Or.inl rfl))
        (fun _ _ _ _ _ => pts_one (pt_cmpR op_ge (pe_callB call_abs (by rfl) T.nAbs (by decide +kernel) (pa_cons (pv 2) pa_nil)) (pe_op op_pow pe_int pe_int) (nomark _)))
        (fun _ _ _ _ _ => pe_op op_sub (pe_callB call_abs (by rfl) T.nAbs (by decide +kernel) (pa_cons (pv 2) pa_nil)) (pe_op op_pow pe_int pe_int)))
      (pss_one (ps_ret (pe_disp (pps_cons pe_str (pv 1) (pps_cons pe_str
        (pe_lc (own := [("cell", 2)]) (g := gName 2) (tt := tYes) rfl nd (pi_list (pv 0)) (blkOk_by (own := [("cell", 2)]) (N := ["script", "great", "cell"]) (sc := defScope s__law_begun) (by decide +kernel))
          (fun _ _ _ _ _ => pg_name (i := 2) nd rfl (Or.inl rfl)) (fun _ _ _ _ _ => pts_nil)
          (fun _ _ _ _ _ => pe_callB call_abs (by rfl) T.nAbs (by decide +kernel) (pa_cons (pv 2) pa_nil)))
        (pps_cons pe_str pe_int (pps_cons pe_str pe_int pps_nil)))) (by rfl) (by rfl) (fun z => by cases z) (by decide)))), ?_⟩
    refine ⟨_, rfl, a, rfl, ⟨_, hS⟩, fun D nD => ?_⟩
    have get : ∀ {i : Nat} {x : V}, (ns.map V.int)[i]? = some x → ∃ z, x = .int z ∧ z ∈ ns ∧ ns[i]? = some z := fun {i x} hx => by
      rw [List.getElem?_map] at hx
      cases e : ns[i]? with
      | none => rw [e] at hx; cases hx
      | some z =>
        rw [e] at hx
        exact ⟨z, (Option.some.inj hx).symm, List.mem_of_getElem? e, rfl⟩
    refine lc_list (K := K) (a := a) (xs := ns.map V.int) (fun i H' => Same H H' ∧ ∃ gs : List Int, H' D = some (.lst (gs.map V.int)) ∧ (∀ z ∈ gs, 0 ≤ z) ∧ gs.length ≤ i)
      ⟨sadd (Same.refl H) nD, [], upd_same, by simp, Nat.le_refl _⟩ (fun i H' _ ⟨s, _⟩ => s.seq hS) ?turn ?done
    case turn =>
      rintro i x H' hx ⟨s, gs, hD, h0, hn⟩
      obtain ⟨z, rfl, _, hz⟩ := get hx
      have hi : i < ns.length := (List.getElem?_eq_some_iff.mp hz).1
      refine ⟨rfl, ?_⟩
      refine ⟨_, rfl, z, rfl, _, _, rfl, rfl, ⟨by decide, by decide, by decide⟩, _, _, rfl, rfl, _, rfl, ?_⟩
      refine ite2 (fun ht => ?_) (fun _ => ?_)
      · have hge := of_decide_eq_true ht
        refine ⟨_, rfl, z, rfl, _, _, rfl, rfl, ⟨by decide, by decide, by decide⟩, _, _, rfl, rfl, _, hD, ?_, sout s nD, gs ++ [(if z < 0 then -z else z) - 10 ^ Int.toNat 18], ?_, ?_, ?_⟩
        · rw [List.length_map, sizeLine_eq]
          omega
        · rw [upd_same, List.map_append]
          rfl
        · intro y hy
          rcases List.mem_append.mp hy with q | q
          · exact h0 y q
          · rw [List.mem_singleton] at q
            rw [q]
            omega
        · rw [List.length_append, List.length_singleton]
          omega
      · exact ⟨s, gs, hD, h0, by omega⟩
    case done =>
      rintro H1 ⟨s1, gs, hD, h0, hn⟩
      rw [List.length_map] at hn
      -- the display
      intro d nd1
      have nd0 : H d = none := s1.free nd1
      have zDd : D ≠ d := ne_of_none hD nd1
      refine ⟨_, rfl, _, rfl, a, rfl, ⟨_, s1.seq hS |> fun q => (sadd (Same.refl H1) nd1).seq q⟩, fun C nC => ?_⟩
      have zC : C ≠ d := fun z => by rw [z, upd_same] at nC; cases nC
      have nC1 : H1 C = none := (upd_ne zC).symm.trans nC
      have nC0 : H C = none := s1.free nC1
      have zDC : D ≠ C := ne_of_none hD nC1
      refine lc_list (K := K) (a := a) (xs := ns.map V.int) (fun i H' => Same (upd H1 d (.dK [])) H' ∧ ∃ cs : List Int, H' C = some (.lst (cs.map V.int)) ∧ (∀ z ∈ cs, 0 ≤ z) ∧ cs.length ≤ i)
        ⟨sadd (Same.refl _) nC, [], upd_same, by simp, Nat.le_refl _⟩ (fun i H' _ ⟨s, _⟩ => s.seq ((sadd (Same.refl H1) nd1).seq (s1.seq hS))) ?turn2 ?done2
      case turn2 =>
        rintro i x H' hx ⟨s, cs, hC, h0', hn'⟩
        obtain ⟨z, rfl, _, hz⟩ := get hx
        have hi : i < ns.length := (List.getElem?_eq_some_iff.mp hz).1
        refine ⟨rfl, ?_⟩
        unfold tYes
        refine iteT ?_
        refine ⟨_, rfl, z, rfl, _, hC, ?_, sout s nC, cs ++ [if z < 0 then -z else z], ?_, ?_, ?_⟩
        · rw [List.length_map, sizeLine_eq]
          omega
        · rw [upd_same, List.map_append]
          rfl
        · intro y hy
          rcases List.mem_append.mp hy with q | q
          · exact h0' y q
          · rw [List.mem_singleton] at q
            rw [q]
            split <;> omega
        · rw [List.length_append, List.length_singleton]
          omega
      case done2 =>
        rintro H2 ⟨s2, cs, hC, h0', hn'⟩
        rw [List.length_map] at hn'
        have hd2 := s2 d _ upd_same
        refine ⟨hd2, [(.inr "great", .ref D), (.inr "cells", .ref C), (.inr "rest", .int 0), (.inr "turn", .int 0)], rfl, (by show 4 ≤ 15; decide), ?_⟩
        rw [st_made]
        have hD2 : H2 D = some (.lst (gs.map V.int)) := s2 D _ ((upd_ne zDd).trans hD)
        refine k d D C _ nd0 nD nC0 (sout ((s1.trans (sadd (Same.refl H1) nd1)).trans s2) nd0) ⟨⟨0, 0, by decide, by decide, by decide, upd_same⟩, ⟨gs, (upd_ne zDd).trans hD2, h0, by omega⟩, ⟨cs, (upd_ne zC).trans hC, h0', by omega⟩, zDC⟩
end

def spMixed : Sp := fun vs H Q _ => ∃ (st g c : Addr) (n : Nat), vs = [.ref st] ∧ SA H st g c n ∧ n ≤ 1000000 ∧
  ∀ z H', 0 ≤ z → SA H' st g c (n + 1) → (∀ b o, H b = some o → b ≠ st → H' b = some o) → Q (.int z) H'
section
variable {P : Program} {w : World} {K : PySem.W.Frag} {mg : Str → Option Value} {base : Heap}
theorem scMixed : FnScope ["state", "turn", "found", "prime", "blend", "cell"] ["state"] (defScope s__law_mixed) := ⟨rfl, rfl, rfl, by decide +kernel, rfl, by decide +kernel, by decide +kernel⟩
theorem ok_mixed {f : Addr} {fd : FuncData} (F : Fun K "_law_mixed" "_law_mixed" s__law_mixed f fd) (T : Txt K mg) : FnOk P w K mg base CX0 1 f fd ["state"] spMixed := by
  refine F.ok scMixed (fun vs H Q E h => ?_) (fun cdv A outer s H vs Q E hr h => ?_)
  · obtain ⟨st, g, c, n, rfl, _⟩ := h
    rfl
  · obtain ⟨st, g, c, n, rfl, S, hn, k⟩ := h
    have nd := scMixed.nd
    have hu := hu_of hr
    refine ⟨_, pss_cons (ps_par (i := 1) (j := 2) rfl nd rfl rfl (by decide) rfl rfl (pa_cons (pe_op op_add (pe_dget hu (pv 0) pe_str (fun _ _ => rfl)) pe_int) (pa_cons pe_int pa_nil)) (by rfl))
      (pss_cons (ps_dput hu (pv 0) pe_str (pv 1) rfl)
      (pss_cons (ps_for PassesOwn.never rfl (pi_list (pe_lst (pa_cons pe_int (pa_cons pe_int (pa_cons pe_int (pa_cons pe_int pa_nil)))))) (pg_name (i := 3) nd rfl (Or.inl rfl))
        (pss_cons (ps_set (i := 4) nd rfl (Or.inl rfl) (pe_op op_add (pe_op op_mul pe_int (pv 1)) (pe_op op_fdiv (pv 3) pe_int)))
        (pss_cons (ps_for PassesOwn.never rfl (pi_list (pe_dget hu (pv 0) pe_str (fun _ _ => rfl))) (pg_name (i := 5) nd rfl (Or.inl rfl))
          (pss_one (ps_set (i := 4) nd rfl (Or.inl rfl) (pe_op op_mod (pe_callTy call_int1 (by rfl) T.nInt (by decide +kernel) (pa_cons (pe_op op_add (pe_op op_add (pe_op op_mul (pv 4) pe_int) (pv 5)) (pv 1)) pa_nil)) (pv 3)))))
        (pss_one (ps_set (i := 2) nd rfl (Or.inl rfl) (pe_op op_add (pe_op op_mul (pv 2) pe_int) (pe_op op_mod (pe_callTy call_int1 (by rfl) T.nInt (by decide +kernel) (pa_cons (pe_op op_pow (pv 4) pe_int) pa_nil)) (pv 3))))))))
      (pss_one (ps_ret (pv 2))))), ?_⟩
    obtain ⟨⟨r, t, r0, t0, tn, hst⟩, ⟨gs, hg, g0, g63⟩, ⟨cs, hc, c0, c63⟩, gc⟩ := S
    refine ⟨_, rfl, st, _, rfl, DGet.k (k := Sum.inr "turn") hst, _, _, rfl, rfl, _, _, rfl, ?_⟩
    -- state['turn'] = turn
    refine ⟨_, rfl, _, rfl, st, _, rfl, DPut.k (k := Sum.inr "turn") hst (by show 4 < sizeLine; decide), ?_⟩
    rw [st_put_turn]
    -- for prime in [..]
    refine ⟨by show 4 ≤ sizeLine; decide, fun l nl => ?_⟩
    have zlst : st ≠ l := fun z => by rw [← z, upd_same] at nl; cases nl
    have nl0 : H l = none := (upd_ne zlst.symm).symm.trans nl
    have zcst : c ≠ st := ne_of hc hst (by intro z; cases z)
    have zgst : g ≠ st := ne_of hg hst (by intro z; cases z)
    have zcl : c ≠ l := ne_of_none hc nl0
    have zgl : g ≠ l := ne_of_none hg nl0
    let Hl : Hp := upd (upd H st (.dK (stK g c r (t + 1)))) l (.lst [.int 2147483629, .int 2147483647, .int 2147483563, .int 2147483587])
    have lc : Hl c = some (.lst (cs.map V.int)) := (upd_ne zcl).trans ((upd_ne zcst).trans hc)
    have lst : Hl st = some (.dK (stK g c r (t + 1))) := (upd_ne zlst).trans upd_same
    refine ⟨l, rfl, ⟨_, SqL.of upd_same⟩, for_list (K := K) (a := l) (xs := [.int 2147483629, .int 2147483647, .int 2147483563, .int 2147483587])
      (fun i σ H2 => Same Hl H2 ∧ ∃ (fnd : Int) (vp vb vc : Option V), 0 ≤ fnd ∧ σ = [some (.ref st), some (.int (t + 1)), some (.int fnd), vp, vb, vc])
      ⟨Same.refl _, 0, none, none, none, by decide, rfl⟩ (fun i σ H2 _ ⟨s, _⟩ => SqL.of (s l _ upd_same)) ?turn ?done⟩
    case turn =>
      rintro i x σ H2 hx ⟨s, fnd, vp, vb, vc, f0, rfl⟩
      obtain ⟨p, rfl, p0, p1⟩ : ∃ p : Int, x = .int p ∧ 0 < p ∧ p < 2 ^ 31 := by
        have hm := List.mem_of_getElem? hx
        simp only [List.mem_cons, List.not_mem_nil, or_false] at hm
        rcases hm with rfl | rfl | rfl | rfl
        all_goals exact ⟨_, rfl, by decide, by decide⟩
      refine ⟨_, rfl, _, _, rfl, rfl, .inl ⟨by decide, by decide⟩, _, rfl, _, _, rfl, rfl, ⟨by decide, by decide⟩, _, _, rfl, rfl, ?_⟩
      refine ⟨_, rfl, st, _, rfl, DGet.k (k := Sum.inr "cells") (s st _ lst), c, rfl, ⟨_, SqL.of (s c _ lc)⟩, for_list (K := K) (a := c) (xs := cs.map V.int)
        (fun j σ' H3 => H3 = H2 ∧ ∃ (bl : Int) (vc : Option V), 0 ≤ bl ∧ bl < 2 ^ 64 ∧ σ' = [some (.ref st), some (.int (t + 1)), some (.int fnd), some (.int p), some (.int bl), vc])
        ⟨rfl, 69621 * (t + 1) + p / 41, vc, ?_, ?_, rfl⟩ (fun j σ' H3 _ ⟨e, _⟩ => SqL.of (e ▸ s c _ lc)) ?turn2 ?done2⟩
      · have := Int.ediv_nonneg (Int.le_of_lt p0) (by decide : (0 : Int) ≤ 41)
        omega
      · have h1 : p / 41 ≤ p := Int.ediv_le_self _ (Int.le_of_lt p0)
        omega
      case turn2 =>
        rintro j y σ' H3 hy ⟨rfl, bl, vc', b0, b1, rfl⟩
        obtain ⟨z, rfl⟩ : ∃ z : Int, y = .int z := by
          rw [List.getElem?_map] at hy
          cases e : cs[j]? with
          | none => rw [e] at hy; cases hy
          | some z =>
            rw [e] at hy
            exact ⟨z, (Option.some.inj hy).symm⟩
        refine ⟨_, rfl, _, _, rfl, rfl, .inr ⟨by decide, by decide⟩, _, rfl, _, _, rfl, rfl, _, rfl, _, _, rfl, rfl, .inl ⟨_, rfl, _, rfl, _, _, rfl, rfl, p0, rfl, _, _, ?_, ?_, rfl⟩⟩
        · exact Int.emod_nonneg _ (by omega)
        · have := Int.emod_lt_of_pos (bl * 48271 + z + (t + 1)) p0
          omega
      case done2 =>
        rintro σ' H3 ⟨rfl, bl, vc', b0, b1, rfl⟩
        refine ⟨_, rfl, _, _, rfl, rfl, .inr ⟨by decide, by decide⟩, _, rfl, _, _, rfl, rfl, ⟨by decide, by decide, by omega⟩, .inl ⟨_, rfl, _, rfl, _, _, rfl, rfl, p0, _, _, rfl, rfl, s, _, _, _, _, ?_, rfl⟩⟩
        have := Int.emod_nonneg (bl ^ Int.toNat 5) (show p ≠ 0 by omega)
        omega
    case done =>
      rintro σ H2 ⟨s, fnd, vp, vb, vc, f0, rfl⟩
      refine ⟨_, rfl, k fnd H2 f0 ⟨⟨r, t + 1, r0, by omega, by omega, s st _ lst⟩, ⟨gs, s g _ ((upd_ne zgl).trans ((upd_ne zgst).trans hg)), g0, g63⟩, ⟨cs, s c _ lc, c0, c63⟩, gc⟩ fun b o e hb => ?_⟩
      exact s b o ((upd_ne (ne_of_none e nl0)).trans ((upd_ne hb).trans e))
end

/-- a draw below room -/
def spDraw : Sp := fun vs H Q _ => ∃ (st g c : Addr) (n : Nat) (room : Int), vs = [.ref st, .int room] ∧ SA H st g c n ∧ n ≤ 1000000 ∧ 0 < room ∧ room ≤ 1000000 ∧
  ∀ z H', 0 ≤ z → z < room → SA H' st g c (n + 1) → Fr st g H H' → Q (.int z) H'
theorem dp_ints {K : PySem.W.Frag} {H : Hp} : ∀ l : List Int, DpAll K H (l.map V.int) (l.map PyData.int)
  | [] => .nil
  | z :: l => .cons (.int z) (dp_ints l)
theorem sh_ints (l : List Int) : SeqAt.shaped (.list (l.map PyData.int)) = true := PySem.W.ke_shaped_ints l
theorem seq0 {α : Type} (z : α) (l : List α) : seqIndex? 0 (z :: l).length = some 0 := by
  have h : ixN (z :: l).length 0 = some 0 := by
    unfold ixN
    rw [if_pos (by decide), if_pos (by rw [List.length_cons]; omega)]
    rfl
  exact (ixN_seq h).1
section
variable {P : Program} {w : World} {K : PySem.W.Frag} {mg : Str → Option Value} {base : Heap}
theorem scDraw : FnScope ["state", "room", "found"] ["state", "room"] (defScope s__law_draw) := ⟨rfl, rfl, rfl, by decide +kernel, rfl, by decide +kernel, by decide +kernel⟩
theorem ok_draw {f fM : Addr} {fd fdM : FuncData} (F : Fun K "_law_draw" "_law_draw" s__law_draw f fd) (T : Txt K mg)
    (FM : FnOk P w K mg base CX0 1 fM fdM ["state"] spMixed) (mM : mg "_law_mixed" = some (.ref fM)) (kM : PySem.W.keepIn K (.ref fM) = true) (bM : Binds K fdM ["state"] []) :
    FnOk P w K mg base CX0 2 f fd ["state", "room"] spDraw := by
  refine F.ok scDraw (fun vs H Q E h => ?_) (fun cdv A outer s H vs Q E hr h => ?_)
  · obtain ⟨st, g, c, n, room, rfl, _⟩ := h
    rfl
  · obtain ⟨st, g, c, n, room, rfl, S, hn, r1, r2, k⟩ := h
    have nd := scDraw.nd
    have hu := hu_of hr
    refine ⟨_, pss_cons (ps_if (pt_cmpR op_eq (pe_dget hu (pv 0) pe_str (fun _ _ => rfl)) pe_int (nomark _))
        (pss_one (ps_dput hu (pv 0) pe_str (pe_ifExp (pt_cmpR (op_neD hr.units) (pe_dget hu (pv 0) pe_str (fun _ _ => rfl)) (pe_lst pa_nil) (nomark _))
          (pe_bm PySem.F.plainAttrs_list PySem.F.slot_list_pop PySem.F.type_list_pop mt_popAt (pe_dget hu (pv 0) pe_str (fun _ _ => rfl)) (pa_cons pe_int pa_nil))
          (pe_call FM hr rfl mM kM bM .nil pass0 (pa_cons (pv 0) pa_nil))) rfl)) pss_nil)
      (pss_cons (ps_set (i := 2) nd rfl (Or.inl rfl) (pe_op op_mod (pe_callTy call_int1 (by rfl) T.nInt (by decide +kernel) (pa_cons (pe_dget hu (pv 0) pe_str (fun _ _ => rfl)) pa_nil)) (pv 1)))
      (pss_cons (ps_dput hu (pv 0) pe_str (pe_op op_fdiv (pe_dget hu (pv 0) pe_str (fun _ _ => rfl)) (pv 1)) rfl)
      (pss_one (ps_ret (pv 2))))), ?_⟩
    obtain ⟨⟨r, t, r0, t0, tn, hst⟩, ⟨gs, hg, g0, g63⟩, ⟨cs, hc, c0, c63⟩, gc⟩ := id S
    have cont : ∀ H1, SA H1 st g c (n + 1) → Fr st g H H1 → tSeq (tAsg (tOp (rI (fun _ j => 0 < j) fun i j => V.int (i % j)) (tCB (fun xs H Q => (∃ i, xs = [V.int i] ∧ Q (V.int i) H) ∨ ∃ k, xs = [V.bl k] ∧ Q (V.int (if k = true then 1 else 0)) H)
        (tCons (tDGet (tVar 0) (tC (V.str (Str.ofString "rest")))) tNil)) (tVar 1)) (gName 2))
        (tSeq (sDPut (tVar 0) (tC (V.str (Str.ofString "rest"))) (tOp (rI CDiv fun i j => V.int (i / j)) (tDGet (tVar 0) (tC (V.str (Str.ofString "rest")))) (tVar 1))) (tRet (tVar 2)))
        { nx := fun x H' => Q V.non H', rt := Q } (L2.start ["state", "room", "found"] [V.ref st, V.int room]) H1 := by
      intro H1 S1 F1
      obtain ⟨⟨r', t', r0', t0', tn', hst'⟩, ⟨gs', hg', g0', g63'⟩, ⟨cs', hc', c0', c63'⟩, gc'⟩ := id S1
      refine ⟨_, rfl, st, _, rfl, DGet.k (k := Sum.inr "rest") hst', .inl ⟨r', rfl, _, rfl, _, _, rfl, rfl, r1, ?_⟩⟩
      refine ⟨_, rfl, st, _, rfl, DGet.k (k := Sum.inr "rest") hst', _, rfl, _, _, rfl, rfl, ⟨r1, by omega⟩, _, rfl, st, _, rfl, DPut.k (k := Sum.inr "rest") hst' (by show 4 < sizeLine; decide), ?_⟩
      rw [st_put_rest]
      have zg : g ≠ st := ne_of hg' hst' (by intro z; cases z)
      have zc : c ≠ st := ne_of hc' hst' (by intro z; cases z)
      refine ⟨_, rfl, k _ _ (Int.emod_nonneg _ (by omega)) (Int.emod_lt_of_pos _ r1) ⟨⟨r' / room, t', Int.ediv_nonneg r0' (by omega), t0', tn', upd_same⟩, ⟨gs', (upd_ne zg).trans hg', g0', g63'⟩, ⟨cs', (upd_ne zc).trans hc', c0', c63'⟩, gc⟩ ?_⟩
      exact F1.trans fun b o e h1 h2 => (upd_ne h1).trans e
    have zg : g ≠ st := ne_of hg hst (by intro z; cases z)
    have zc : c ≠ st := ne_of hc hst (by intro z; cases z)
    refine ⟨_, rfl, st, _, rfl, DGet.k (k := Sum.inr "rest") hst, rfl, _, rfl, ?_⟩
    refine ite2 (fun hz => ?_) (fun hz => ?_)
    · -- a new rest
      refine ⟨_, rfl, st, _, rfl, DGet.k (k := Sum.inr "great") hst, ?_, fun l nl => ?_⟩
      · show 0 ≤ sizeLine
        omega
      have zgl : g ≠ l := ne_of_none hg nl
      have zcl : c ≠ l := ne_of_none hc nl
      have zsl : st ≠ l := ne_of_none hst nl
      have hgl : upd H l (.lst []) g = some (.lst (gs.map V.int)) := (upd_ne zgl).trans hg
      have hstl : upd H l (.lst []) st = some (.dK (stK g c r t)) := (upd_ne zsl).trans hst
      have hcl : upd H l (.lst []) c = some (.lst (cs.map V.int)) := (upd_ne zcl).trans hc
      refine ⟨.list (gs.map PyData.int), .list [], .lst (SqL.of hgl) (dp_ints gs), .lst (SqL.of upd_same) .nil, sh_ints gs, rfl, _, rfl, ?_⟩
      cases gs with
      | nil =>
        refine iteF ?_
        have S' : SA (upd H l (.lst [])) st g c n := S.same (sadd (Same.refl H) nl)
        refine ⟨_, rfl, st, g, c, n, rfl, S', hn, fun z H1 z0 S1 F1 => ?_⟩
        obtain ⟨⟨r', t', r0', t0', tn', hst'⟩, ⟨gs', hg', g0', g63'⟩, ⟨cs', hc', c0', c63'⟩, gc'⟩ := id S1
        refine ⟨_, rfl, st, _, rfl, DPut.k (k := Sum.inr "rest") hst' (by show 4 < sizeLine; decide), ?_⟩
        rw [st_put_rest]
        refine cont _ ⟨⟨z, t', z0, t0', tn', upd_same⟩, ⟨gs', (upd_ne zg).trans hg', g0', g63'⟩, ⟨cs', (upd_ne zc).trans hc', c0', c63'⟩, gc⟩ fun b o e h1 h2 => (upd_ne h1).trans (F1 b o ((upd_ne (ne_of_none e nl)).trans e) h1)
      | cons z gs =>
        refine iteT ?_
        have zgc : c ≠ g := gc.symm
        refine ⟨_, rfl, st, _, rfl, DGet.k (k := Sum.inr "great") hstl, .inl ⟨rfl, _, SqL.of hgl⟩, g, _, 0, 0, _, rfl, rfl, hgl, by decide, by decide, seq0 _ _, rfl, ?_⟩
        have e0 : ((z :: gs).map V.int).eraseIdx 0 = gs.map V.int := rfl
        rw [e0]
        refine ⟨_, rfl, st, _, rfl, DPut.k (k := Sum.inr "rest") ((upd_ne zg.symm).trans hstl) (by show 4 < sizeLine; decide), ?_⟩
        rw [st_put_rest]
        refine cont _ ⟨⟨z, t, g0 z List.mem_cons_self, t0, by omega, upd_same⟩, ⟨gs, (upd_ne zg).trans upd_same, fun y hy => g0 y (List.mem_cons_of_mem _ hy), by rw [List.length_cons] at g63; omega⟩,
          ⟨cs, (upd_ne zc).trans ((upd_ne zgc).trans hcl), c0, c63⟩, gc⟩ fun b o e h1 h2 => (upd_ne h1).trans ((upd_ne h2).trans ((upd_ne (ne_of_none e nl)).trans e))
    · exact cont H (S.mono (Nat.le_succ n)) (Fr.refl st g H)
end
end OH
end
section
set_option Elab.async false
set_option linter.all false
set_option maxRecDepth 100000
set_option maxHeartbeats 8000000
namespace OH
open PySem PySem.Spec PyProof.Rows L2
def spPick : Sp := fun vs H Q _ => ∃ (st g c a : Addr) (n : Nat) (xs : List V), vs = [.ref st, .ref a] ∧ SA H st g c n ∧ n ≤ 1000000 ∧ H a = some (.lst xs) ∧ a ≠ g ∧ 0 < xs.length ∧ xs.length ≤ 1000000 ∧
  ∀ x H', x ∈ xs → SA H' st g c (n + 1) → Fr st g H H' → Q x H'
theorem upd_under {H : Hp} {a b : Addr} {o u : HO} (h : a ≠ b) : upd (upd H a o) b u a = some o := (upd_ne h).trans upd_same
theorem SA.put {H : Hp} {st g c p : Addr} {n : Nat} {o : HO} (s : SA H st g c n) (z : p ≠ st ∧ p ≠ g ∧ p ≠ c) : SA (upd H p o) st g c n := by
  obtain ⟨⟨r, t, h1, h2, h3, h4⟩, ⟨gs, g1, g2, g3⟩, ⟨cs, c1, c2, c3⟩, gc⟩ := s
  exact ⟨⟨r, t, h1, h2, h3, (upd_ne z.1.symm).trans h4⟩, ⟨gs, (upd_ne z.2.1.symm).trans g1, g2, g3⟩, ⟨cs, (upd_ne z.2.2.symm).trans c1, c2, c3⟩, gc⟩
theorem Fr.free {st g l : Addr} {H H' : Hp} (f : Fr st g H H') (n : H' l = none) (z : l ≠ st) (z2 : l ≠ g) : H l = none := by
  cases e : H l with
  | none => rfl
  | some o =>
    have q := f l o e z z2
    rw [n] at q
    cases q
theorem Fr.out {st g l : Addr} {H H' : Hp} {o : HO} (f : Fr st g H H') (n : H l = none) : Fr st g H (upd H' l o) := fun b u e h1 h2 =>
  (upd_ne (ne_of_none e n)).trans (f b u e h1 h2)
/-- a drawn number -/
def spNo (used : Nat) : Sp := fun vs H Q _ => ∃ (st g c : Addr) (n : Nat), vs = [.ref st] ∧ SA H st g c n ∧ n ≤ 900000 ∧
  ∀ z H', 0 ≤ z → z ≤ 9999 → SA H' st g c (n + used) → Fr st g H H' → Q (.int z) H'
theorem ix_both {X : Cx} : IxR X (fun x y H Q => rIxL X.K x y H Q ∨ rIxT X.K x y H Q) := by
  intro value slice pins s σ H x y v u Q I rx ry h hs
  rcases h with h | h
  · exact ix_list value slice pins s σ H x y v u Q I rx ry h hs
  · exact ix_tup value slice pins s σ H x y v u Q I rx ry h hs
/-- xs stands at a, as a list or as a tuple -/
def Holds (H : Hp) (a g : Addr) (xs : List V) : Prop := (H a = some (.lst xs) ∧ a ≠ g) ∨ H a = some (.tup xs)
def spPick2 : Sp := fun vs H Q _ => ∃ (st g c a : Addr) (n : Nat) (xs : List V), vs = [.ref st, .ref a] ∧ SA H st g c n ∧ n ≤ 1000000 ∧ Holds H a g xs ∧ 0 < xs.length ∧ xs.length ≤ 1000000 ∧
  ∀ x H', x ∈ xs → SA H' st g c (n + 1) → Fr st g H H' → Q x H'
section
variable {P : Program} {w : World} {K : PySem.W.Frag} {mg : Str → Option Value} {base : Heap}
theorem scPick : FnScope ["state", "some"] ["state", "some"] (defScope s__law_pick) := ⟨rfl, rfl, rfl, by decide +kernel, rfl, by decide +kernel, by decide +kernel⟩
theorem ok_pick2 {f fD : Addr} {fd fdD : FuncData} (F : Fun K "_law_pick" "_law_pick" s__law_pick f fd) (T : Txt K mg)
    (FD : FnOk P w K mg base CX0 2 fD fdD ["state", "room"] spDraw) (mD : mg "_law_draw" = some (.ref fD)) (kD : PySem.W.keepIn K (.ref fD) = true) (bD : Binds K fdD ["state", "room"] []) :
    FnOk P w K mg base CX0 3 f fd ["state", "some"] spPick2 := by
  refine F.ok scPick (fun vs H Q E h => ?_) (fun cdv A outer s H vs Q E hr h => ?_)
  · obtain ⟨st, g, c, a, n, xs, rfl, _⟩ := h
    rfl
  · obtain ⟨st, g, c, a, n, xs, rfl, S, hn, ha, l0, l1, k⟩ := h
    refine ⟨_, pss_one (ps_ret (pe_ix ix_both (pv 1) (pe_call FD hr rfl mD kD bD .nil pass0 (pa_cons (pv 0) (pa_cons (pe_callB call_len (by rfl) T.nLen (by decide +kernel) (pa_cons (pv 1) pa_nil)) pa_nil))) (fun _ _ => rfl))), ?_⟩
    refine ⟨_, rfl, _, rfl, _, rfl, _, xs.length, rfl, ?_, st, g, c, n, _, rfl, S, hn, by omega, by omega, fun z H1 z0 z1 S1 F1 => ?_⟩
    · rcases ha with ⟨ha, _⟩ | ha
      · exact .inl ⟨_, SqL.of ha, rfl⟩
      · exact .inr ⟨_, SqT.of ha, rfl⟩
    · have hz : z.toNat < xs.length := by omega
      have cast : (z.toNat : Int) = z := Int.toNat_of_nonneg z0
      have hx : xs[z.toNat]? = some xs[z.toNat] := List.getElem?_eq_getElem hz
      have at_ : atI xs z = some xs[z.toNat] := by
        have q := atI_nat hx
        rw [cast] at q
        exact q
      rcases ha with ⟨ha, ag⟩ | ha
      · have ha1 := F1 a _ ha (S.ne_st ha (fun _ q => nomatch q)) ag
        exact .inl ⟨a, _, _, _, rfl, rfl, SqL.of ha1, at_, k _ H1 (List.getElem_mem hz) S1 F1⟩
      · have ag : a ≠ g := by
          obtain ⟨_, ⟨gs, g1, _⟩, _⟩ := S
          exact ne_of ha g1 (fun q => nomatch q)
        have ha1 := F1 a _ ha (S.ne_st ha (fun _ q => nomatch q)) ag
        exact .inr ⟨a, _, _, _, rfl, rfl, SqT.of ha1, at_, k _ H1 (List.getElem_mem hz) S1 F1⟩
/-- the contract for lists alone -/
theorem pick_of {f : Addr} {fd : FuncData} (F : FnOk P w K mg base CX0 3 f fd ["state", "some"] spPick2) : FnOk P w K mg base CX0 3 f fd ["state", "some"] spPick :=
  F.imp fun vs H Q E ⟨st, g, c, a, n, xs, e, S, hn, ha, ag, l0, l1, k⟩ => ⟨st, g, c, a, n, xs, e, S, hn, .inl ⟨ha, ag⟩, l0, l1, k⟩
end
section
variable {P : Program} {w : World} {K : PySem.W.Frag} {mg : Str → Option Value} {base : Heap}
theorem scSmall : FnScope ["state"] ["state"] (defScope s__law_small) := ⟨rfl, rfl, rfl, by decide +kernel, rfl, by decide +kernel, by decide +kernel⟩
theorem ok_small {f fD fP : Addr} {fd fdD fdP : FuncData} (F : Fun K "_law_small" "_law_small" s__law_small f fd)
    (FD : FnOk P w K mg base CX0 2 fD fdD ["state", "room"] spDraw) (mD : mg "_law_draw" = some (.ref fD)) (kD : PySem.W.keepIn K (.ref fD) = true) (bD : Binds K fdD ["state", "room"] [])
    (FP : FnOk P w K mg base CX0 3 fP fdP ["state", "some"] spPick) (mP : mg "_law_pick" = some (.ref fP)) (kP : PySem.W.keepIn K (.ref fP) = true) (bP : Binds K fdP ["state", "some"] []) :
    FnOk P w K mg base CX0 4 f fd ["state"] (spNo 2) := by
  refine F.ok scSmall (fun vs H Q E h => ?_) (fun cdv A outer s H vs Q E hr h => ?_)
  · obtain ⟨st, g, c, n, rfl, _⟩ := h
    rfl
  · obtain ⟨st, g, c, n, rfl, S, hn, k⟩ := h
    have nd := scSmall.nd
    have hr2 : Room 2 _ := hr.mono (by decide)
    refine ⟨_, pss_one (ps_ret (pe_call FP hr rfl mP kP bP .nil pass0 (pa_cons (pv 0) (pa_cons (pe_lst
      (pa_cons pe_int (pa_cons pe_int (pa_cons pe_int (pa_cons pe_int (pa_cons pe_int (pa_cons pe_int (pa_cons pe_int (pa_cons pe_int (pa_cons pe_int (pa_cons pe_int (pa_cons pe_int (pa_cons pe_int (pa_cons pe_int (pa_cons pe_int (pa_cons pe_int
      (pa_cons (pe_op op_add pe_int (pe_call FD hr2 rfl mD kD bD .nil pass0 (pa_cons (pv 0) (pa_cons pe_int pa_nil)))) pa_nil))))))))))))))))) pa_nil)))), ?_⟩
    refine ⟨_, rfl, _, rfl, st, g, c, n, 9999, rfl, S, by omega, by decide, by decide, fun z1 H1 z10 z11 S1 F1 => ?_⟩
    refine ⟨_, _, rfl, rfl, (by show 16 ≤ sizeLine; decide), fun l nl => ?_⟩
    have zl := S1.old nl
    have l0 : H l = none := F1.free nl zl.1 zl.2.1
    refine ⟨st, g, c, l, n + 1, _, rfl, S1.put zl, by omega, upd_same, zl.2.1, (by show 0 < 16; decide), (by show 16 ≤ 1000000; decide), fun x H2 hx S2 F2 => ?_⟩
    have F12 : Fr st g H H2 := (F1.out l0).trans F2
    have hx' : x ∈ ([.int 0, .int 1, .int 2, .int 3, .int 1, .int 0, .int 4, .int 5, .int 2, .int 9999, .int 7, .int 10, .int 9, .int 40, .int 9998, .int (1 + z1)] : List V) := hx
    simp only [List.mem_cons, List.not_mem_nil, or_false] at hx'
    rcases hx' with rfl | rfl | rfl | rfl | rfl | rfl | rfl | rfl | rfl | rfl | rfl | rfl | rfl | rfl | rfl | rfl
    all_goals exact k _ H2 (by omega) (by omega) S2 F12
end
end OH
end
section
set_option Elab.async false
set_option linter.all false
set_option maxRecDepth 100000
set_option maxHeartbeats 4000000
/-! enumerate over a tuple. -/
namespace OH
open PySem PySem.Spec PyProof.Rows L2
/-- what making an enumerate of anything that can be iterated leaves -/
theorem en_meets {v : Value} {o : Obj} {T : Heap → Prop} (B : Begins v o T) :
    Meets (Builtin.«enumerate.__new__» ⟨[.type "enumerate", v], []⟩) (fun _ R s => T s.heap ∧ R (.ok (.ret (.ref (s.heap.push o).objs.size)))
      { s with heap := (s.heap.push o).push { cls := .type "enumerate", data := .fields #[.none, .bool false, .ref s.heap.objs.size, rawInt 0, .none, .none] } }) :=
  Meets.of_wp fun prog w A R s hh => by
    obtain ⟨hp, gs, dr, tk, os⟩ := s
    obtain ⟨ht, hr⟩ := hh
    have hsub := sub_enumerate
    have go : ∀ {A' : Around} {E : Value → Shared → Prop} {Q : Value → Shared → Prop}, Q (.ref hp.objs.size) ⟨hp.push o, gs, dr, tk, os⟩ → wpAny (model prog w) A' (pyIter v) Q E ⟨hp, gs, dr, tk, os⟩ := fun q => B.iter prog w _ _ ⟨hp, gs, dr, tk, os⟩ _ ht q
    wp_walk using go
    refine wpAny_stack_any fun stk => wpAny_pure ?_
    split
    · next c _ _ _ _ _ =>
      cases (c == Value.type "enumerate") <;> (wp_walk using go; exact ⟨_, rfl, hr⟩)
    · wp_walk using go
      exact ⟨_, rfl, hr⟩
theorem en_call {prog : Program} {w : World} {A : Around} {E : Value → Shared → Prop} {s : Shared} {v : Value} {o : Obj} {T : Heap → Prop} {Q : Value → Shared → Prop} (B : Begins v o T) (ht : T s.heap)
    (h : ∀ h', IsEnum h' (s.heap.objs.size + 1) s.heap.objs.size 0 .none → h'.get? s.heap.objs.size = some o → (∀ b u, s.heap.get? b = some u → h'.get? b = some u) → Q (.ref (s.heap.objs.size + 1)) { s with heap := h' }) :
    wpAny (model prog w) A (call (.type "enumerate") [v]) Q E s := by
  refine callType_new F.called_enumerate (by decide) (F.typeCall_enumerate_1 _) (F.newCall_enumerate_1 _) (fun obj => F.args_object_init_2 obj _) F.entry_enumerate_new (en_meets B) ⟨ht, ?_⟩
  have hz : (s.heap.push o).objs.size = s.heap.objs.size + 1 := Heap.size_push ..
  show _ ∧ _
  rw [hz]
  have he : IsEnum ((s.heap.push o).push { cls := .type "enumerate", data := .fields #[.none, .bool false, .ref s.heap.objs.size, rawInt 0, .none, .none] }) (s.heap.objs.size + 1) s.heap.objs.size 0 .none := by
    have q := Heap.get?_push_size (s.heap.push o) (o := { cls := .type "enumerate", data := .fields #[.none, .bool false, .ref s.heap.objs.size, rawInt 0, .none, .none] }) rfl
    rw [hz] at q
    exact q
  exact ⟨⟨_, he, rfl⟩, h _ he (Heap.get?_push_of_some _ (Heap.get?_push_size _ B.free)) fun b u x => Heap.get?_push_of_some _ (Heap.get?_push_of_some _ x)⟩
/-- the tuple at a as it stands at each turn, each item in a new pair -/
def IteT (K : PySem.W.Frag) (a : Addr) : It :=
  ⟨fun i H => ∃ (xs : List V) (x : V), SqT K H a xs ∧ xs[i]? = some x,
   fun i H v H' => ∃ T x, v = .ref T ∧ H T = none ∧ H' = upd H T (.tup [.int (i : Nat), x]) ∧ ∀ ys, SqT K H a ys → ys[i]? = some x,
   fun i H => ∃ xs : List V, SqT K H a xs ∧ xs.length ≤ i⟩
theorem turn_enumT {P : Program} {w : World} {K : PySem.W.Frag} {elts : List Expr} {kk : Nat} {tpos : Pos} (a e it : Addr) :
    Turn P w K (.Tuple elts kk tpos) (IteT K a) [e, it] e (fun i h => (∃ old, IsEnum h e it ((i : Nat) : Int) old) ∧ h.IsTupleIter it a i ∧ e ≠ it) where
  mem := List.mem_cons_self ..
  obj := fun i h st b hb => by
    obtain ⟨⟨old, he⟩, ⟨o, ho, hc, hd⟩, _⟩ := st
    rcases List.mem_cons.mp hb with z | z
    · rw [z]; exact ⟨_, he, fun v q => nomatch q⟩
    · exact ⟨o, (List.mem_singleton.mp z) ▸ ho, fun v q => by rw [hd] at q; cases q⟩
  keep := fun i h h' st k => let ⟨⟨old, he⟩, hi, hne⟩ := st; ⟨⟨old, k e (List.mem_cons_self ..) _ he⟩, hi.at fun o q => k it (List.mem_cons_of_mem _ (List.mem_singleton.mpr rfl)) o q, hne⟩
  item := by
    intro X hP hw hK hc i pins s σ H E I hf st hg
    subst hP hw hK
    obtain ⟨⟨old, he⟩, hit, hne⟩ := st
    obtain ⟨xs, x, hq, hx⟩ := hg
    obtain ⟨its, rv, p, hz⟩ := I.tuple hq
    obtain ⟨u, hu, ru⟩ := rv.get hx
    have hT0 : s.heap.IsTuple a its.toArray := p
    have nai : a ≠ it := fun z => by
      obtain ⟨o1, q1, q2, _⟩ := hT0
      obtain ⟨o2, q3, q4, _⟩ := hit
      rw [z, q3] at q1
      cases q1
      rw [q4] at q2
      exact absurd q2 (by decide)
    have nae : a ≠ e := fun z => by
      obtain ⟨o1, q1, q2, _⟩ := hT0
      rw [z] at q1
      have q5 := (Option.some.inj (q1.symm.trans he))
      rw [q5] at q2
      exact absurd (show Value.type "enumerate" = Value.type "tuple" from q2) (by decide)
    have hel : e < s.heap.objs.size := Heap.lt_size he
    have hil : it < s.heap.objs.size := by obtain ⟨_, q, _⟩ := hit; exact Heap.lt_size q
    have hlt : i < its.toArray.size := by
      rw [List.size_toArray]
      exact (List.getElem?_eq_some_iff.mp hu).1
    refine wpAny_pyNext_enum_itemD (Draws.tuple (prog := X.prog) (w := X.w) (A := X.A.in1) (by have := I.ok.hd hc; simpa using this) it a nai its.toArray) he ⟨hit, hT0⟩ hlt hne (by
      intro z
      rcases List.mem_cons.mp z with z | z
      · exact hne z
      · exact nae (List.mem_singleton.mp z).symm) fun x' h' tk hP ho hst hT hsz hk => ?_
    obtain rfl : x' = u := by
      have q : its.toArray[i]? = some x' := hP
      rw [List.getElem?_toArray, hu] at q
      exact (Option.some.inj q).symm
    refine ⟨_, rfl, wpAny_letOwnedTupleGo_enum (s := { s with heap := h', toks := tk + 1 }) ho fun h'' he' sb => ?_⟩
    have hT2 : h''.get? s.heap.objs.size = some { cls := .type "tuple", data := .seq #[.int i tk, x'] } := (sb.2 _ (Nat.ne_of_gt hel)).trans hT
    have new : ObjOk X.prog X.w (upd H s.heap.objs.size (.tup [.int (i : Nat), x])) h'' s.heap.objs.size (.tup [.int (i : Nat), x]) :=
      ⟨by show 2 ≤ sizeLine; decide, [.int i tk, x'], .cons ⟨_, rfl⟩ (.cons ru .nil), ⟨_, hT2, rfl, _, rfl⟩⟩
    have I1 : Inv X pins σ (upd H s.heap.objs.size (.tup [.int (i : Nat), x])) { s with heap := h'', toks := tk + 1 } :=
      I.turnedNew (ch := [e, it]) (fun b ob hb q => (sb.2 b (fun z => hb (z ▸ List.mem_cons_self ..))).trans (hk b ob (fun z => hb (z ▸ List.mem_cons_self ..)) (fun z => hb (z ▸ List.mem_cons_of_mem _ (List.mem_singleton.mpr rfl))) q)) hf (Nat.le_refl _) new
    refine ⟨.ref s.heap.objs.size, _, I1, rfl, ⟨_, x, rfl, I.hok.fresh (Nat.le_refl _), rfl, fun ys hy => by rw [I.tuple_inj hy hq]; exact hx⟩, ⟨⟨x', ?_⟩, hst.1.at fun o q => (sb.2 it (Ne.symm hne)).trans q, hne⟩, fun b hb => ?_⟩
    · have e1 : ((i + 1 : Nat) : Int) = (i : Int) + 1 := by omega
      rw [e1]
      exact he'
    · have hb' : b < s.heap.objs.size := by
        rcases List.mem_cons.mp hb with z | z
        · rw [z]; exact hel
        · rw [List.mem_singleton.mp z]; exact hil
      rw [upd_ne (Nat.ne_of_lt hb')]
      exact (hf b hb).1
  done := by
    intro X hP hw hK hc i pins s σ H E I hf st hg
    subst hP hw hK
    obtain ⟨⟨old, he⟩, hit, hne⟩ := st
    obtain ⟨xs, hq, hx⟩ := hg
    obtain ⟨its, rv, p, hz⟩ := I.tuple hq
    have hT0 : s.heap.IsTuple a its.toArray := p
    obtain ⟨f0, f1, f2, f3, f4, f5⟩ := hf it (List.mem_cons_of_mem _ (List.mem_singleton.mpr rfl))
    have hl := rv.length
    have hT : s.TypeIs (.ref e) "enumerate" := ⟨_, he, rfl⟩
    unfold pyNext
    refine wpAny_bind (wpAny_attempt (wpAny_callSpecial?_slot (name := Str.ofString "__next__") hT F.slot_enumerate_next (wpAny_call_entry F.slot_enumerate_next hT F.entry_enumerate_next ?_ (F.args_enumerate_next_1 _))))
    show wpAny _ _ (field (.ref e) 2 >>= _) _ _ _
    refine wpAny_bind (wpAny_field he rfl (x := .ref it) rfl ?_)
    refine wpAny_bind (wpAny_nextOf_tuple_end (by have := I.ok.hd hc; simpa using this) hit hT0 (by rw [List.getElem?_toArray]; exact List.getElem?_eq_none (by omega)) fun h' x eb hx' => ?_)
    obtain ⟨o, ho, hcc⟩ := hx'
    refine wpAny_bind (wpAny_isInstance (T := "StopIteration") (b := true) ⟨o, ho, hcc⟩ isSubtype_stop (wpAny_pure ⟨rfl, I.turned (t' := s.toks) (fun b o hb q => eb b o hb q) f0 f1 f3 f4 f5⟩))
  self := fun A i s Q E st h => let ⟨⟨_, he⟩, _⟩ := st; wpAny_pyIter_enum he h
def iEnumT (K : PySem.W.Frag) (ta : TA) : TI := fun σ H R => ta σ H fun vs H1 => ∃ a xs, vs = [.ref a] ∧ SqT K H1 a xs ∧ R (IteT K a) H1
theorem pi_enumT {X : Cx} {e : Expr} {ta : TA} {p pos tpos : Pos} {elts : List Expr} {kk : Nat} (hg : Gl X "enumerate") (hm : X.mg "enumerate" = none) (ha : PA X [e] ta) (hs : starEach [e] X.env = [(false, eval e X.env)] := by rfl) :
    PI X (.Tuple elts kk tpos) (.Call (.Name "enumerate" p) [e] [] pos) (iEnumT X.K ta) := by
  refine ⟨fun pins s σ H R I h => ?_⟩
  refine Call_ (ld_blt I hg hm boot_enumerate (PyProof.Rows.callWith_type1 (thn (ha.run pos pins s σ H _ I h) fun us s1 ⟨vs, H1, I1, r1, a, xs, ex, hq, q⟩ => ?_) hs rfl))
  subst ex
  cases r1 with
  | cons r rr =>
    cases rr
    cases r
    obtain ⟨its, rv, p', hz⟩ := I1.tuple hq
    refine en_call (begins_tuple a its.toArray) p' fun h' he hit hk => wpAny_pyIter_enum he ?_
    have I2 : Inv X pins σ H1 { s1 with heap := h' } := I1.kept (t' := s1.toks) hk
    refine ⟨s1.heap.objs.size + 1, [s1.heap.objs.size + 1, s1.heap.objs.size], _, _, H1, rfl, I2, turn_enumT a (s1.heap.objs.size + 1) s1.heap.objs.size, ⟨⟨.none, he⟩, ⟨_, hit, rfl, rfl⟩, Nat.succ_ne_self _⟩, fun b hb => ?_, q⟩
    have hle : s1.heap.objs.size ≤ b := by
      rcases List.mem_cons.mp hb with z | z
      · rw [z]; exact Nat.le_add_right _ _
      · rw [List.mem_singleton.mp z]; exact Nat.le_refl _
    exact I1.fpOk hle (I1.hok.fresh hle)
/-- n turns of it, while the tuple stands -/
theorem walk_enumT {K : PySem.W.Frag} {a : Addr} {xs : List V} : Walk (IteT K a) xs.length (fun H => SqT K H a xs) (YPair (fun i => some (.int (i : Nat))) (fun i => xs[i]?)) := by
  refine ⟨fun i _ hi q => ⟨xs, xs[i], q, List.getElem?_eq_getElem hi⟩, fun _ q => ⟨xs, q, Nat.le_refl _⟩, fun i H v H' _ q y => ?_⟩
  obtain ⟨T, x, h1, h2, h3, h4⟩ := y
  exact ⟨T, .int (i : Nat), x, h1, h2, h3, rfl, h4 xs q⟩
end OH
end
section
set_option Elab.async false
set_option linter.all false
set_option maxRecDepth 100000
set_option maxHeartbeats 4000000
/-! len(set(t)), t a tuple of tuples of ints. -/
namespace OH
open PySem PySem.Spec PyProof.Rows L2
abbrev set0 (w : World) : Obj := { cls := .type "set", dict := none, data := .set #[] 0 (.fresh 0 0 (!w.params.followText "set-order")) }
section
variable {P : Program} {w : World} {A : Around} {E : Value → Shared → Prop} {s : Shared}
set_option maxHeartbeats 6400000 in
theorem set_of_tup {l : Addr} {its : Array Value} (ks : List (Addr × List Int)) {Q : Value → Shared → Prop} (hh : A.handled = none) (ht : s.heap.IsTuple l its) (hi : its.toList = ks.map fun p => Value.ref p.1)
    (hk : ∀ p ∈ ks, IsT P w s.heap p.2 p.1) (few : ks.length < 64) (hu : A.units + 3 < cLine)
    (kk : ∀ (h' : Heap) (tk : Nat) L es ep t, SetTR P w h' s.heap.objs.size L es ep t → Got ks ks.length L → (∀ b o, s.heap.get? b = some o → h'.get? b = some o) → Q (.ref s.heap.objs.size) { s with heap := h', toks := tk }) :
    wpAny (model P w) A (call (.type "set") [.ref l]) Q E s := by
  have isz : its.size = ks.length := by
    have q := congrArg List.length hi
    rwa [Array.length_toList, List.length_map] at q
  obtain ⟨c, tl, hmro⟩ := PySem.F.called_set.mro
  have m1 := PySem.F.called_set.made
  have m2 := PySem.F.called_set.sub
  have m3 := PySem.F.called_set.notType
  have m4 := PySem.F.called_set.canCreate
  have m5 := PySem.F.typeCall_set_1 (.ref l)
  refine wpAny_call (codeAny_of_tree ?_)
  show wpAny _ _ (callAny (.type "set") _) _ _ _
  refine wpAny_pure ⟨Code.quiet_builtin _ (by decide +kernel), codeAny_builtin PySem.F.entry_type_call ?_⟩
  rw [Around.under_plain (weight_type_call_type "set" [.ref l] []) rfl]
  repeat (any_goals (first | assumption | wp_step))
  refine codeAny_mono (code_set_led1 (.ref l) (E := E) (Q₁ := fun v s₁ => v = .ref s.heap.objs.size ∧ s₁ = { s with heap := s.heap.push (set0 w) }) ⟨rfl, rfl⟩) fun r s₁ hr => ?_
  cases r with
  | error er => exact hr
  | ok fl =>
    cases fl with
    | ret v =>
      obtain ⟨rfl, rfl⟩ := hr
      have hS : (s.heap.push (set0 w)).get? s.heap.objs.size = some (set0 w) := Heap.get?_push_size _ rfl
      have hT : Shared.TypeIs { s with heap := s.heap.push (set0 w) } (.ref s.heap.objs.size) "set" := ⟨_, hS, rfl⟩
      have n1 := PySem.F.called_set.init.lookup
      have n2 := PySem.F.called_set.init.bind (.ref s.heap.objs.size)
      repeat (any_goals (first | assumption | wp_step))
      refine codeAny_mono (codeAny_call_builtin (R := wants (fun r s₂ => r = .none ∧ ∃ h' tk L es ep t, s₂ = { s with heap := h', toks := tk } ∧ SetTR P w h' s.heap.objs.size L es ep t ∧ Got ks ks.length L ∧ (∀ b o, s.heap.get? b = some o → h'.get? b = some o)) E)
        PySem.F.called_set.init.plain PySem.F.entry_set_init (check_set_init_1 hT ?_)) fun r₂ s₂ hr₂ => ?_
      · obtain ⟨⟨c1, c2, c3, c4⟩, hol, hcl, nl, hdl⟩ := ht
        simp only at hcl hdl
        subst hcl hdl
        have hol' : (s.heap.push (set0 w)).get? l = some { cls := .type "tuple", dict := c2, data := .seq its nl, slots := c4 } := Heap.get?_push_of_some _ hol
        have q1 := PySem.F.sub_tuple_set
        have q2 := PySem.F.sub_tuple_frozenset
        have q3 : (Value.type "tuple" == Value.type "dict") = false := by decide
        have ht1 : (s.heap.push (set0 w)).IsTuple l its := ⟨_, hol', rfl, nl, rfl⟩
        unfold Builtin.«set.__init__» noKeywords Builtin.Frozenset.updateFrom
        generalize hPI : pyIter = PI
        wp_walk
        subst hPI
        refine wpAny_pyIter_tuple ht1 (wpAny_bind (wpAny_runValue ?_))
        have below : l < s.heap.objs.size := Heap.lt_size hol
        have h3 : A.in1.in1.in1.handled = none := by simp [hh]
        have szp : (s.heap.push (set0 w)).objs.size = s.heap.objs.size + 1 := Heap.size_push ..
        have apart : l ≠ (s.heap.push (set0 w)).objs.size := by
          rw [szp]
          exact Nat.ne_of_lt (Nat.lt_succ_of_lt below)
        have outS : s.heap.objs.size ∉ [(s.heap.push (set0 w)).objs.size, l] := by
          rw [szp]
          intro z
          rcases List.mem_cons.mp z with z | z
          · exact absurd z (Nat.ne_of_lt (Nat.lt_succ_self _))
          · exact absurd (List.mem_singleton.mp z) (Nat.ne_of_gt below)
        have vals : ∀ (i : Nat) (v : Value), its[i]? = some v → ∃ p, ks[i]? = some p ∧ v = .ref p.1 := fun i v hv => by
          have q : its.toList[i]? = some v := by rw [Array.getElem?_toList]; exact hv
          rw [hi, List.getElem?_map] at q
          obtain ⟨p, e1, e2⟩ := Option.map_eq_some_iff.mp q
          exact ⟨p, e1, e2.symm⟩
        have fresh : ∀ b, s.heap.objs.size ≤ b → s.heap.get? b = none := fun b hb => by
          cases q : s.heap.get? b with
          | none => rfl
          | some o => exact absurd (Nat.lt_of_lt_of_le (Heap.lt_size q) hb) (Nat.lt_irrefl _)
        refine set_update_tups ((Walks.tuple h3 _ l apart its).toS) s.heap.objs.size outS ks isz few vals s.heap hk (fresh _ (Nat.le_refl _)) (fun b hb => fresh b (by
            rw [List.mem_singleton.mp hb, szp]
            exact Nat.le_succ _)) hu (its.size - 0) 0 _ (by omega) (Nat.zero_le _)
          ⟨⟨_, Heap.get?_push_size _ rfl, rfl, rfl⟩, ht1.push _⟩ (fun b o e => Heap.get?_push_of_some _ (Heap.get?_push_of_some _ e)) ?first ?last
        case first =>
          have g0 : ((s.heap.push (set0 w)).push { cls := .type "tuple_iterator", data := .fields #[.ref l, .int 0 0] }).get? s.heap.objs.size = some (set0 w) := Heap.get?_push_of_some _ hS
          exact ⟨[], #[], 0, _, setTR_fresh g0, Got.zero ks⟩
        case last =>
          intro s' L es ep t mv R g kp
          obtain ⟨h', g2, d2, tk, o2⟩ := s'
          have e1 : g2 = s.gens := mv.gens
          have e2 : d2 = s.drawn := mv.drawn
          have e3 : o2 = s.os := mv.os
          subst e1 e2 e3
          show wpAny _ _ _ _ _ _
          refine wpAny_pure ?_
          show wpAny _ _ (ret Value.none) _ _ _
          rw [isz] at g
          exact wpAny_pure ⟨rfl, h', tk, L, es, ep, t, rfl, R, g, kp⟩
      · cases r₂ with
        | error er => exact hr₂
        | ok f₂ =>
          cases f₂ with
          | ret r =>
            obtain ⟨rfl, h', tk, L, es, ep, t, rfl, R, g, kp⟩ := hr₂
            repeat (any_goals (first | assumption | wp_step))
            exact kk _ _ _ _ _ _ R g kp
          | _ => exact hr₂.elim
    | _ => exact hr.elim
end
theorem nodup_le {α : Type} [DecidableEq α] : ∀ (l D : List α), l.Nodup → (∀ x ∈ l, x ∈ D) → l.length ≤ D.length
  | [], _, _, _ => Nat.zero_le _
  | x :: l, D, hn, hs => by
    obtain ⟨h1, h2⟩ := List.nodup_cons.mp hn
    have hx : x ∈ D := hs x List.mem_cons_self
    have ih := nodup_le l (D.erase x) h2 fun y hy => (by
      have ne : y ≠ x := fun e => h1 (by rw [← e]; exact hy)
      exact (List.mem_erase_of_ne ne).2 (hs y (List.mem_cons_of_mem _ hy)))
    rw [List.length_erase_of_mem hx] at ih
    have := List.length_pos_of_mem hx
    rw [List.length_cons]
    omega
/-- a list that holds all of a list without doubles that is as long has none either -/
theorem nodup_of_le {α : Type} [DecidableEq α] : ∀ (l D : List α), D.Nodup → (∀ x ∈ D, x ∈ l) → l.length ≤ D.length → l.Nodup
  | [], _, _, _, _ => List.nodup_nil
  | x :: l, D, hn, hs, hl => by
    have cover : ∀ (T : List α), T.Nodup → (∀ y ∈ T, y ∈ l) → T.length ≤ l.length := fun T h1 h2 => nodup_le T l h1 h2
    by_cases hx : x ∈ l
    · have q := cover D hn fun y hy => (List.mem_cons.mp (hs y hy)).elim (fun e => by rw [e]; exact hx) id
      rw [List.length_cons] at hl
      omega
    · refine List.nodup_cons.mpr ⟨hx, nodup_of_le l (D.erase x) (hn.erase x) (fun y hy => ?_) ?_⟩
      · have hy2 := List.mem_of_mem_erase hy
        rcases List.mem_cons.mp (hs y hy2) with e | z
        · rw [e] at hy
          exact absurd hy (fun h => by rw [List.Nodup.mem_erase_iff hn] at h; exact h.1 rfl)
        · exact z
      · have hxD : x ∈ D := by
          refine Classical.byContradiction fun nx => ?_
          have q := cover D hn fun y hy => (List.mem_cons.mp (hs y hy)).elim (fun e => absurd (show x ∈ D by rw [← e]; exact hy) nx) id
          rw [List.length_cons] at hl
          omega
        rw [List.length_erase_of_mem hxD]
        rw [List.length_cons] at hl
        omega
def tLenSetT (K : PySem.W.Frag) (ta : TE) : TE := fun σ H Q => ta σ H fun x H1 => ∃ (l : Addr) (ks : List (Addr × List Int)), x = .ref l ∧ SqT K H1 l (ks.map fun p => V.ref p.1) ∧ (∀ p ∈ ks, SqT K H1 p.1 (p.2.map V.int)) ∧ ks.length < 64 ∧
  ∀ n : Nat, (n = ks.length ↔ (ks.map (·.2)).Nodup) → Q (.int n) H1
theorem pe_lenSetT {X : Cx} {a : Expr} {ta : TE} {p p2 q pos : Pos} (hu : X.A.units + 64 < cLine) (hg : Gl X "len") (hm : X.mg "len" = none) (hg2 : Gl X "set") (hm2 : X.mg "set" = none) (ha : PE X a ta) (hc : X.calm = true := by rfl)
    (na : starEach [a] X.env = (false, eval a X.env) :: starEach [] X.env := by rfl) : PE X (.Call (.Name "len" p) [.Call (.Name "set" p2) [a] [] q] [] pos) (tLenSetT X.K ta) := by
  refine ⟨fun pins s σ H Q I h => ?_⟩
  refine Call_ (ld_blt I hg hm boot_len (PyProof.Rows.callWith_builtin1 (PyProof.Rows.args_cons ?_ rfl) rfl rfl))
  refine Call_ (ld_blt I hg2 hm2 boot_set (PyProof.Rows.callWith_type1 (PyProof.Rows.args_cons (thn (ha.run pins s σ H _ I h) fun v s1 ⟨x, H1, I1, r1, l, ks, ex, hq, hk, hf, q1⟩ => PyProof.Rows.args_nil ?_) na) na rfl))
  subst ex
  cases r1
  obtain ⟨its, r, pl, hz⟩ := I1.tuple hq
  refine set_of_tup (P := X.prog) (w := X.w) ks (I1.ok.hd hc) pl (by simpa using refs_of_vals r) (fun p hp => I1.isT (hk p hp)) hf (by omega) fun h' tk L es ep t R g kp => ?_
  refine PyProof.Rows.args_nil ?_
  obtain ⟨o, ho, hex, hd⟩ := R.ob
  have I2 : Inv X pins σ H1 { s1 with heap := h', toks := tk } := I1.kept fun b o e => kp b o e
  have es1 : es.size = L.length := R.size (s := { s1 with heap := h', toks := tk })
  have few := R.few
  refine call_len_set ho hex hd (R.fits (s := { s1 with heap := h', toks := tk })) (by rw [es1]; omega) ⟨.int L.length, H1, I2.tok _, ⟨_, by rw [es1]⟩, q1 L.length ⟨fun e => ?_, fun nd => ?_⟩⟩
  · refine nodup_of_le _ (L.map (·.2)) R.nd (fun y hy => ?_) (by rw [List.length_map, List.length_map, e]; exact Nat.le_refl _)
    obtain ⟨p, hp, rfl⟩ := List.mem_map.mp hy
    exact List.mem_map.mpr ⟨p, List.mem_of_mem_take (g.sub p hp), rfl⟩
  · have q1 := nodup_le (ks.map (·.2)) (L.map (·.2)) nd (fun y hy => by
      obtain ⟨p, hp, rfl⟩ := List.mem_map.mp hy
      exact g.all p (by rw [List.take_length]; exact hp))
    rw [List.length_map, List.length_map] at q1
    have := g.len
    omega
end OH
end
section
set_option Elab.async false
set_option linter.all false
set_option maxRecDepth 100000
set_option maxHeartbeats 4000000
/-! enumerate over a list, counted from a start. -/
namespace OH
open PySem PySem.Spec PyProof.Rows L2
theorem tc_en2 (a b : Value) : checkTypeCall "enumerate" ⟨[a, b], []⟩ = pure () := by kernel_rfl
theorem nc_en2 (a b : Value) : checkBuiltinCall "enumerate.__new__" ⟨[.type "enumerate", a, b], []⟩ = pure () := by kernel_rfl
theorem en2_meets {v : Value} {o : Obj} {T : Heap → Prop} (B : Begins v o T) (t : Tok) :
    Meets (Builtin.«enumerate.__new__» ⟨[.type "enumerate", v, .int 1 t], []⟩) (fun _ R s => T s.heap ∧ R (.ok (.ret (.ref (s.heap.push o).objs.size)))
      { s with heap := (s.heap.push o).push { cls := .type "enumerate", data := .fields #[.none, .bool false, .ref s.heap.objs.size, rawInt 1, .none, .none] } }) :=
  Meets.of_wp fun prog w A R s hh => by
    obtain ⟨hp, gs, dr, tk, os⟩ := s
    obtain ⟨ht, hr⟩ := hh
    have hsub := sub_enumerate
    have go : ∀ {A' : Around} {E : Value → Shared → Prop} {Q : Value → Shared → Prop}, Q (.ref hp.objs.size) ⟨hp.push o, gs, dr, tk, os⟩ → wpAny (model prog w) A' (pyIter v) Q E ⟨hp, gs, dr, tk, os⟩ := fun q => B.iter prog w _ _ ⟨hp, gs, dr, tk, os⟩ _ ht q
    wp_walk using go
    refine wpAny_stack_any fun stk => wpAny_pure ?_
    split
    · next c _ _ _ _ _ =>
      cases (c == Value.type "enumerate") <;> (wp_walk using go; exact ⟨_, rfl, hr⟩)
    · wp_walk using go
      exact ⟨_, rfl, hr⟩
theorem en2_call {prog : Program} {w : World} {A : Around} {E : Value → Shared → Prop} {s : Shared} {v : Value} {o : Obj} {T : Heap → Prop} {Q : Value → Shared → Prop} {t : Tok} (B : Begins v o T) (ht : T s.heap)
    (h : ∀ h', IsEnum h' (s.heap.objs.size + 1) s.heap.objs.size 1 .none → h'.get? s.heap.objs.size = some o → (∀ b u, s.heap.get? b = some u → h'.get? b = some u) → Q (.ref (s.heap.objs.size + 1)) { s with heap := h' }) :
    wpAny (model prog w) A (call (.type "enumerate") [v, .int 1 t]) Q E s := by
  refine callType_new F.called_enumerate (by decide) (tc_en2 _ _) (nc_en2 _ _) (fun obj => F.args_object_init_3 obj _ _) F.entry_enumerate_new (en2_meets B t) ⟨ht, ?_⟩
  have hz : (s.heap.push o).objs.size = s.heap.objs.size + 1 := Heap.size_push ..
  show _ ∧ _
  rw [hz]
  have he : IsEnum ((s.heap.push o).push { cls := .type "enumerate", data := .fields #[.none, .bool false, .ref s.heap.objs.size, rawInt 1, .none, .none] }) (s.heap.objs.size + 1) s.heap.objs.size 1 .none := by
    have q := Heap.get?_push_size (s.heap.push o) (o := { cls := .type "enumerate", data := .fields #[.none, .bool false, .ref s.heap.objs.size, rawInt 1, .none, .none] }) rfl
    rw [hz] at q
    exact q
  exact ⟨⟨_, he, rfl⟩, h _ he (Heap.get?_push_of_some _ (Heap.get?_push_size _ B.free)) fun b u x => Heap.get?_push_of_some _ (Heap.get?_push_of_some _ x)⟩
/-- the list at a as it stands at each turn, each item in a new pair, counted from 1 -/
def IteO (K : PySem.W.Frag) (a : Addr) : It :=
  ⟨fun i H => ∃ (xs : List V) (x : V), SqL K H a xs ∧ xs[i]? = some x,
   fun i H v H' => ∃ T x, v = .ref T ∧ H T = none ∧ H' = upd H T (.tup [.int ((i + 1 : Nat) : Int), x]) ∧ ∀ ys, SqL K H a ys → ys[i]? = some x,
   fun i H => ∃ xs : List V, SqL K H a xs ∧ xs.length ≤ i⟩
/-- the same draws, counted from 1 -/
theorem draws_one {prog : Program} {w : World} {A : Around} {it : Addr} {fp : List Addr} {n : Nat} {P : Nat → Value → Prop} {St : Nat → Heap → Prop} (D : Draws prog w A it fp n P St) :
    Draws prog w A it fp (n + 1) (fun i v => ∃ j, i = j + 1 ∧ P j v) (fun i h => ∃ j, i = j + 1 ∧ St j h) where
  live := fun i h ⟨j, _, st⟩ => D.live j h st
  frame := fun i h h' ⟨j, e, st⟩ k => ⟨j, e, D.frame j h h' st k⟩
  item := fun i s Q E hi ⟨j, e, st⟩ hQ => D.item j s Q E (by omega) st fun x h' tk p st' sb => hQ x h' tk ⟨j, e, p⟩ ⟨j + 1, by omega, st'⟩ sb
  done := fun s Q E ⟨j, e, st⟩ hE => D.done s Q E ((Nat.succ.inj e) ▸ st) hE
theorem turn_enumO {P : Program} {w : World} {K : PySem.W.Frag} {elts : List Expr} {kk : Nat} {tpos : Pos} (a e it : Addr) :
    Turn P w K (.Tuple elts kk tpos) (IteO K a) [e, it] e (fun i h => (∃ old, IsEnum h e it ((i + 1 : Nat) : Int) old) ∧ h.IsListIter it a i ∧ e ≠ it) where
  mem := List.mem_cons_self ..
  obj := fun i h st b hb => by
    obtain ⟨⟨old, he⟩, ⟨o, ho, hc, hd⟩, _⟩ := st
    rcases List.mem_cons.mp hb with z | z
    · rw [z]; exact ⟨_, he, fun v q => nomatch q⟩
    · exact ⟨o, (List.mem_singleton.mp z) ▸ ho, fun v q => by rw [hd] at q; cases q⟩
  keep := fun i h h' st k => let ⟨⟨old, he⟩, hi, hne⟩ := st; ⟨⟨old, k e (List.mem_cons_self ..) _ he⟩, hi.at fun o q => k it (List.mem_cons_of_mem _ (List.mem_singleton.mpr rfl)) o q, hne⟩
  item := by
    intro X hP hw hK hc i pins s σ H E I hf st hg
    subst hP hw hK
    obtain ⟨⟨old, he⟩, hit, hne⟩ := st
    obtain ⟨xs, x, hq, hx⟩ := hg
    obtain ⟨its, rv, p, hz⟩ := I.list hq
    obtain ⟨u, hu, ru⟩ := rv.get hx
    have hT0 : s.heap.IsList a its.toArray := p.isList
    have nai : a ≠ it := fun z => by
      obtain ⟨o1, q1, q2, _⟩ := hT0
      obtain ⟨o2, q3, q4, _⟩ := hit
      rw [z, q3] at q1
      cases q1
      rw [q4] at q2
      exact absurd q2 (by decide)
    have nae : a ≠ e := fun z => by
      obtain ⟨o1, q1, q2, _⟩ := hT0
      rw [z] at q1
      have q5 := (Option.some.inj (q1.symm.trans he))
      rw [q5] at q2
      exact absurd (show Value.type "enumerate" = Value.type "list" from q2) (by decide)
    have hel : e < s.heap.objs.size := Heap.lt_size he
    have hil : it < s.heap.objs.size := by obtain ⟨_, q, _⟩ := hit; exact Heap.lt_size q
    have hlt : i + 1 < its.toArray.size + 1 := by
      rw [List.size_toArray]
      have := (List.getElem?_eq_some_iff.mp hu).1
      omega
    refine wpAny_pyNext_enum_itemD (draws_one (Draws.list (prog := X.prog) (w := X.w) (A := X.A.in1) (by have := I.ok.hd hc; simpa using this) it a nai its.toArray)) he ⟨i, rfl, hit, hT0⟩ hlt hne (by
      intro z
      rcases List.mem_cons.mp z with z | z
      · exact hne z
      · exact nae (List.mem_singleton.mp z).symm) fun x' h' tk hP ho hst hT hsz hk => ?_
    obtain ⟨j, ej, hP⟩ := hP
    obtain rfl : j = i := by omega
    obtain rfl : x' = u := by
      have q : its.toArray[j]? = some x' := hP
      rw [List.getElem?_toArray, hu] at q
      exact (Option.some.inj q).symm
    refine ⟨_, rfl, wpAny_letOwnedTupleGo_enum (s := { s with heap := h', toks := tk + 1 }) ho fun h'' he' sb => ?_⟩
    have hT2 : h''.get? s.heap.objs.size = some { cls := .type "tuple", data := .seq #[.int ((j + 1 : Nat) : Int) tk, x'] } := (sb.2 _ (Nat.ne_of_gt hel)).trans hT
    have new : ObjOk X.prog X.w (upd H s.heap.objs.size (.tup [.int ((j + 1 : Nat) : Int), x])) h'' s.heap.objs.size (.tup [.int ((j + 1 : Nat) : Int), x]) :=
      ⟨by show 2 ≤ sizeLine; decide, [.int ((j + 1 : Nat) : Int) tk, x'], .cons ⟨_, rfl⟩ (.cons ru .nil), ⟨_, hT2, rfl, _, rfl⟩⟩
    have I1 : Inv X pins σ (upd H s.heap.objs.size (.tup [.int ((j + 1 : Nat) : Int), x])) { s with heap := h'', toks := tk + 1 } :=
      I.turnedNew (ch := [e, it]) (fun b ob hb q => (sb.2 b (fun z => hb (z ▸ List.mem_cons_self ..))).trans (hk b ob (fun z => hb (z ▸ List.mem_cons_self ..)) (fun z => hb (z ▸ List.mem_cons_of_mem _ (List.mem_singleton.mpr rfl))) q)) hf (Nat.le_refl _) new
    obtain ⟨j2, ej2, hst1, _⟩ := hst
    obtain rfl : j2 = j + 1 := by omega
    refine ⟨.ref s.heap.objs.size, _, I1, rfl, ⟨_, x, rfl, I.hok.fresh (Nat.le_refl _), rfl, fun ys hy => by rw [I.list_inj hy hq]; exact hx⟩, ⟨⟨x', ?_⟩, hst1.at fun o q => (sb.2 it (Ne.symm hne)).trans q, hne⟩, fun b hb => ?_⟩
    · have e1 : ((j + 1 + 1 : Nat) : Int) = ((j + 1 : Nat) : Int) + 1 := by omega
      rw [e1]
      exact he'
    · have hb' : b < s.heap.objs.size := by
        rcases List.mem_cons.mp hb with z | z
        · rw [z]; exact hel
        · rw [List.mem_singleton.mp z]; exact hil
      rw [upd_ne (Nat.ne_of_lt hb')]
      exact (hf b hb).1
  done := by
    intro X hP hw hK hc i pins s σ H E I hf st hg
    subst hP hw hK
    obtain ⟨⟨old, he⟩, hit, hne⟩ := st
    obtain ⟨xs, hq, hx⟩ := hg
    obtain ⟨its, rv, p, hz⟩ := I.list hq
    obtain ⟨f0, f1, f2, f3, f4, f5⟩ := hf it (List.mem_cons_of_mem _ (List.mem_singleton.mpr rfl))
    have hl := rv.length
    have hT : s.TypeIs (.ref e) "enumerate" := ⟨_, he, rfl⟩
    unfold pyNext
    refine wpAny_bind (wpAny_attempt (wpAny_callSpecial?_slot (name := Str.ofString "__next__") hT F.slot_enumerate_next (wpAny_call_entry F.slot_enumerate_next hT F.entry_enumerate_next ?_ (F.args_enumerate_next_1 _))))
    show wpAny _ _ (field (.ref e) 2 >>= _) _ _ _
    refine wpAny_bind (wpAny_field he rfl (x := .ref it) rfl ?_)
    refine wpAny_bind (wpAny_nextOf_list_end (by have := I.ok.hd hc; simpa using this) hit p.isList (by rw [List.getElem?_toArray]; exact List.getElem?_eq_none (by omega)) fun h' x eb hx' => ?_)
    obtain ⟨o, ho, hcc⟩ := hx'
    refine wpAny_bind (wpAny_isInstance (T := "StopIteration") (b := true) ⟨o, ho, hcc⟩ isSubtype_stop (wpAny_pure ⟨rfl, I.turned (t' := s.toks) (fun b o hb q => eb b o hb q) f0 f1 f3 f4 f5⟩))
  self := fun A i s Q E st h => let ⟨⟨_, he⟩, _⟩ := st; wpAny_pyIter_enum he h
def iEnumO (K : PySem.W.Frag) (ta : TA) : TI := fun σ H R => ta σ H fun vs H1 => ∃ a xs, vs = [.ref a, .int 1] ∧ SqL K H1 a xs ∧ R (IteO K a) H1
theorem pi_enumO {X : Cx} {e e2 : Expr} {ta : TA} {p pos tpos : Pos} {elts : List Expr} {kk : Nat} (hg : Gl X "enumerate") (hm : X.mg "enumerate" = none) (ha : PA X [e, e2] ta)
    (hs : starEach [e, e2] X.env = (false, eval e X.env) :: starEach [e2] X.env := by rfl) (hpl : (backTo pos (starEach [e2] X.env)).any (·.1) = false := by rfl) :
    PI X (.Tuple elts kk tpos) (.Call (.Name "enumerate" p) [e, e2] [] pos) (iEnumO X.K ta) := by
  refine ⟨fun pins s σ H R I h => ?_⟩
  refine Call_ (ld_blt I hg hm boot_enumerate (PyProof.Rows.callWith_type1 (thn (ha.run pos pins s σ H _ I h) fun us s1 ⟨vs, H1, I1, r1, a, xs, ex, hq, q⟩ => ?_) hs hpl))
  subst ex
  cases r1 with
  | cons r rr =>
    cases rr with
    | cons r2 rr =>
      cases rr
      cases r
      obtain ⟨t2, rfl⟩ := r2
      obtain ⟨its, rv, p', hz⟩ := I1.list hq
      refine en2_call (begins_list a its.toArray) p'.isList fun h' he hit hk => wpAny_pyIter_enum he ?_
      have I2 : Inv X pins σ H1 { s1 with heap := h' } := I1.kept (t' := s1.toks) hk
      refine ⟨s1.heap.objs.size + 1, [s1.heap.objs.size + 1, s1.heap.objs.size], _, _, H1, rfl, I2, turn_enumO a (s1.heap.objs.size + 1) s1.heap.objs.size, ⟨⟨.none, he⟩, ⟨_, hit, rfl, rfl⟩, Nat.succ_ne_self _⟩, fun b hb => ?_, q⟩
      have hle : s1.heap.objs.size ≤ b := by
        rcases List.mem_cons.mp hb with z | z
        · rw [z]; exact Nat.le_add_right _ _
        · rw [List.mem_singleton.mp z]; exact Nat.le_refl _
      exact I1.fpOk hle (I1.hok.fresh hle)
/-- so many turns of it, while the list stands -/
theorem walk_enumO {K : PySem.W.Frag} {a : Addr} {xs : List V} : Walk (IteO K a) xs.length (fun H => SqL K H a xs) (YPair (fun i => some (.int ((i + 1 : Nat) : Int))) (fun i => xs[i]?)) := by
  refine ⟨fun i _ hi q => ⟨xs, xs[i], q, List.getElem?_eq_getElem hi⟩, fun _ q => ⟨xs, q, Nat.le_refl _⟩, fun i H v H' _ q y => ?_⟩
  obtain ⟨T, x, h1, h2, h3, h4⟩ := y
  exact ⟨T, .int ((i + 1 : Nat) : Int), x, h1, h2, h3, rfl, h4 xs q⟩
end OH
end
section
set_option Elab.async false
set_option linter.all false
set_option maxRecDepth 100000
set_option maxHeartbeats 4000000
/-! xs[::2] and xs[1::2]. -/
namespace OH
open PySem PySem.Spec PyProof.Rows L2
/-- every other item, from the first one on -/
def evs {α : Type} : List α → List α
  | [] => []
  | [a] => [a]
  | a :: _ :: r => a :: evs r
theorem evs_range {α : Type} : ∀ xs : List α, (List.range ((xs.length + 1) / 2)).filterMap (fun k => xs[2 * k]?) = evs xs
  | [] => by simp [evs]
  | [a] => by
    rw [show ([a].length + 1) / 2 = 1 by rw [List.length_singleton], List.range_one]
    unfold evs
    rfl
  | a :: b :: r => by
    have h1 : ((a :: b :: r).length + 1) / 2 = (r.length + 1) / 2 + 1 := by
      show (r.length + 1 + 1 + 1) / 2 = _
      omega
    rw [h1, List.range_succ_eq_map, List.filterMap_cons, List.filterMap_map]
    unfold evs
    rw [← evs_range r]
    rfl
theorem fm_congr {α β : Type} {f g : α → Option β} (h : ∀ x, f x = g x) (l : List α) : l.filterMap f = l.filterMap g := by rw [show f = g from funext h]
theorem evs_vals : ∀ {xs : List V} {us : List Value}, Vals xs us → Vals (evs xs) (evs us)
  | _, _, .nil => by unfold evs; exact .nil
  | _, _, .cons a .nil => by unfold evs; exact .cons a .nil
  | _, _, .cons a (.cons _ r) => by unfold evs; exact .cons a (evs_vals r)
theorem evs_len {α : Type} : ∀ xs : List α, (evs xs).length ≤ xs.length
  | [] => by unfold evs; exact Nat.le_refl _
  | [_] => by unfold evs; exact Nat.le_refl _
  | _ :: _ :: r => by unfold evs; exact Nat.succ_le_succ (Nat.le_succ_of_le (evs_len r))
theorem range2 (lo n : Nat) (h : lo ≤ n) : sliceRange (lo : Int) (n : Int) 2 = (List.range ((n - lo + 1) / 2)).map fun k => lo + 2 * k := by
  unfold sliceRange
  rw [if_pos (by decide : (2 : Int) > 0)]
  have e : (if (lo : Int) < (n : Int) then ((n : Int) - lo + 2 - 1) / 2 else 0).toNat = (n - lo + 1) / 2 := by
    split
    · omega
    · omega
  show (List.range (if (lo : Int) < (n : Int) then ((n : Int) - lo + 2 - 1) / 2 else 0).toNat).map _ = _
  rw [e]
  apply List.map_congr_left
  intro k _
  omega
theorem pick_even (its : List Value) : slicePick its.toArray none none (some 2) = (evs its).toArray := by
  unfold slicePick
  have e : sliceBounds none none (some 2) its.toArray.size = (((0 : Nat) : Int), ((its.length : Nat) : Int), 2) := by
    show (_, _, _) = _
    rw [List.size_toArray]
    rfl
  rw [e]
  show ((sliceRange ((0 : Nat) : Int) (its.length : Int) 2).filterMap (its.toArray[·]?)).toArray = _
  rw [range2 0 its.length (Nat.zero_le _), List.filterMap_map, ← evs_range]
  congr 1
  refine fm_congr (fun k => ?_) _
  show its.toArray[0 + 2 * k]? = _
  rw [Nat.zero_add, List.getElem?_toArray]
theorem pick_odd (its : List Value) : slicePick its.toArray (some 1) none (some 2) = (evs its.tail).toArray := by
  unfold slicePick
  cases its with
  | nil => rfl
  | cons a r =>
    have e : sliceBounds (some 1) none (some 2) (a :: r).toArray.size = (((1 : Nat) : Int), (((a :: r).length : Nat) : Int), 2) := by
      show (_, _, _) = _
      rw [List.size_toArray]
      have : max (0 : Int) (min 1 (((a :: r).length : Nat) : Int)) = 1 := by
        show max (0 : Int) (min 1 ((r.length + 1 : Nat) : Int)) = 1
        omega
      show (max (0 : Int) (min 1 (((a :: r).length : Nat) : Int)), _, _) = _
      rw [this]
      rfl
    rw [e]
    show ((sliceRange ((1 : Nat) : Int) ((a :: r).length : Int) 2).filterMap ((a :: r).toArray[·]?)).toArray = _
    rw [range2 1 (a :: r).length (Nat.succ_le_succ (Nat.zero_le _)), List.filterMap_map]
    show _ = (evs r).toArray
    rw [← evs_range]
    congr 1
    show List.filterMap _ (List.range ((r.length + 1 - 1 + 1) / 2)) = _
    rw [Nat.add_sub_cancel]
    refine fm_congr (fun k => ?_) _
    show (a :: r).toArray[1 + 2 * k]? = _
    rw [List.getElem?_toArray, Nat.add_comm 1]
    rfl
def tEvL (K : PySem.W.Frag) (te : TE) : TE := fun σ H Q => te σ H fun x H1 => ∃ a xs, x = .ref a ∧ SqL K H1 a xs ∧ ∀ p, H1 p = none → Q (.ref p) (upd H1 p (.lst (evs xs)))
def tOdL (K : PySem.W.Frag) (te : TE) : TE := fun σ H Q => te σ H fun x H1 => ∃ a xs, x = .ref a ∧ SqL K H1 a xs ∧ ∀ p, H1 p = none → Q (.ref p) (upd H1 p (.lst (evs xs.tail)))
section
variable {X : Cx} {e : Expr} {te : TE} {k k2 : Nat} {p1 p2 p3 pos : Pos}
theorem pe_evL (he : PE X e te) : PE X (.Subscript e (.Slice none none (some (.Constant (.int 2) k p1)) p3) pos) (tEvL X.K te) := by
  refine ⟨fun pins s σ H Q I h => ?_⟩
  refine Subscript_ (thn (he.run pins s σ H _ I h) fun v s1 ⟨x, H1, I1, r1, a, xs, ex, hx, q⟩ => ?_)
  subst ex
  cases r1
  have hst : PO X (some (.Constant (.int 2) k p1)) (tPart (tC (.int 2))) := po_some pe_int
  refine wpAny_Slice (thn (po_none.run pins s1 σ H1 (fun o H2 => o = none ∧ H2 = H1) I1 ⟨rfl, rfl⟩) fun vl s2 ⟨l, H2, I2, pl, el, e2⟩ => ?_)
  subst el e2
  refine thn (po_none.run pins s2 σ H2 (fun o H3 => o = none ∧ H3 = H2) I2 ⟨rfl, rfl⟩) fun vu s3 ⟨u, H3, I3, pu, eu, e3⟩ => ?_
  subst eu e3
  refine thn (hst.run pins s3 σ H3 (fun o H4 => o = some 2 ∧ H4 = H3) I3 ⟨2, rfl, rfl, rfl⟩) fun vs s4 ⟨o, H4, I4, ps, eo, e4⟩ => ?_
  subst eo e4
  have I5 : Inv X pins σ H4 { s4 with heap := s4.heap.push { cls := .type "slice", data := .fields #[vl, vu, vs] } } := I4.kept (t' := s4.toks) fun b ob q => Heap.get?_push_of_some _ q
  obtain ⟨its, r, ht, hz⟩ := I5.list hx
  have hlen := r.length
  refine tail_any (s := { s4 with heap := s4.heap.push { cls := .type "slice", data := .fields #[vl, vu, vs] } }) (ops := [.ref a, .ref s4.heap.objs.size]) ht.isList.typeIs (PySem.slot_list_getitem.lookup) ?_ (by with_unfolding_all rfl)
  refine wpAny_getItem_list_slice ht.isList (Heap.IsSliceOf.new _ vl vu vs) pl pu ps (by decide) ?_ (by rw [List.size_toArray]; omega)
  rw [pick_even]
  have hz2 := evs_len xs
  exact ⟨.ref _, _, I5.laid (t' := s4.toks) (o := .lst (evs xs)) (fun b ob q => Heap.get?_push_of_some _ q) (Nat.le_refl _) ⟨by omega, _, 0, evs_vals r, Heap.get?_push_size _ rfl⟩, rfl, q _ (I5.hok.fresh (Nat.le_refl _))⟩
theorem pe_odL (he : PE X e te) : PE X (.Subscript e (.Slice (some (.Constant (.int 1) k2 p2)) none (some (.Constant (.int 2) k p1)) p3) pos) (tOdL X.K te) := by
  refine ⟨fun pins s σ H Q I h => ?_⟩
  refine Subscript_ (thn (he.run pins s σ H _ I h) fun v s1 ⟨x, H1, I1, r1, a, xs, ex, hx, q⟩ => ?_)
  subst ex
  cases r1
  have hst : PO X (some (.Constant (.int 2) k p1)) (tPart (tC (.int 2))) := po_some pe_int
  have hlo : PO X (some (.Constant (.int 1) k2 p2)) (tPart (tC (.int 1))) := po_some pe_int
  refine wpAny_Slice (thn (hlo.run pins s1 σ H1 (fun o H2 => o = some 1 ∧ H2 = H1) I1 ⟨1, rfl, rfl, rfl⟩) fun vl s2 ⟨l, H2, I2, pl, el, e2⟩ => ?_)
  subst el e2
  refine thn (po_none.run pins s2 σ H2 (fun o H3 => o = none ∧ H3 = H2) I2 ⟨rfl, rfl⟩) fun vu s3 ⟨u, H3, I3, pu, eu, e3⟩ => ?_
  subst eu e3
  refine thn (hst.run pins s3 σ H3 (fun o H4 => o = some 2 ∧ H4 = H3) I3 ⟨2, rfl, rfl, rfl⟩) fun vs s4 ⟨o, H4, I4, ps, eo, e4⟩ => ?_
  subst eo e4
  have I5 : Inv X pins σ H4 { s4 with heap := s4.heap.push { cls := .type "slice", data := .fields #[vl, vu, vs] } } := I4.kept (t' := s4.toks) fun b ob q => Heap.get?_push_of_some _ q
  obtain ⟨its, r, ht, hz⟩ := I5.list hx
  have hlen := r.length
  refine tail_any (s := { s4 with heap := s4.heap.push { cls := .type "slice", data := .fields #[vl, vu, vs] } }) (ops := [.ref a, .ref s4.heap.objs.size]) ht.isList.typeIs (PySem.slot_list_getitem.lookup) ?_ (by with_unfolding_all rfl)
  refine wpAny_getItem_list_slice ht.isList (Heap.IsSliceOf.new _ vl vu vs) pl pu ps (by decide) ?_ (by rw [List.size_toArray]; omega)
  rw [pick_odd]
  have hz2 := evs_len xs.tail
  rw [List.length_tail] at hz2
  have rt : Vals xs.tail its.tail := by
    cases r with
    | nil => exact .nil
    | cons _ r => exact r
  exact ⟨.ref _, _, I5.laid (t' := s4.toks) (o := .lst (evs xs.tail)) (fun b ob q => Heap.get?_push_of_some _ q) (Nat.le_refl _) ⟨by omega, _, 0, evs_vals rt, Heap.get?_push_size _ rfl⟩, rfl, q _ (I5.hok.fresh (Nat.le_refl _))⟩
end
end OH
end
section
set_option Elab.async false
set_option linter.all false
set_option maxRecDepth 100000
set_option maxHeartbeats 4000000
/-! Defs, methods, classes and properties with all that a call of them asks, in one word each. -/
namespace OH
open PySem PySem.Spec PyProof.Rows L2
section
variable (P : Program) (w : World) (K : PySem.W.Frag) (mg : Str → Option Value) (base : Heap) (CX : CXT) (k : Nat)
/-- the top's def of that name -/
def DefF (x : Str) (ps : List Str) (sp : Sp) : Prop := ∃ (f : Addr) (fd : FuncData), FnOk P w K mg base CX k f fd ps sp ∧ mg x = some (.ref f) ∧ PySem.W.keepIn K (.ref f) = true ∧ Binds K fd ps []
/-- the class's method of that name -/
def MetF (C : Addr) (m : Str) (ps : List Str) (sp : Sp) : Prop := ∃ (f : Addr) (fd : FuncData), FnOk P w K mg base CX k f fd ps sp ∧ Meth K C m f ∧ Binds K fd ps []
/-- the class itself, by its __init__ -/
def MakF (x : Str) (C : Addr) (ps : List Str) (sp : Sp) : Prop := ∃ (f : Addr) (fd : FuncData), FnOk P w K mg base CX k f fd ps sp ∧ Mk K C f ∧ mg x = some (.ref C) ∧ Binds K fd ps []
/-- the class's property of that name -/
def ProF (C : Addr) (m : Str) (sp : Sp) : Prop := ∃ (p g : Addr) (fd : FuncData), FnOk P w K mg base CX k g fd ["self"] sp ∧ PropOf K C m p g ∧ Binds K fd ["self"] []
end
section
variable {P : Program} {w : World} {K : PySem.W.Frag} {mg : Str → Option Value} {base : Heap} {CX : CXT} {j k : Nat} {x m : Str} {C : Addr} {ps : List Str} {sp sp' : Sp}
theorem DefF.mono (D : DefF P w K mg base CX j x ps sp) (h : j ≤ k) : DefF P w K mg base CX k x ps sp := let ⟨f, fd, F, r⟩ := D; ⟨f, fd, F.mono h, r⟩
theorem MetF.mono (D : MetF P w K mg base CX j C m ps sp) (h : j ≤ k) : MetF P w K mg base CX k C m ps sp := let ⟨f, fd, F, r⟩ := D; ⟨f, fd, F.mono h, r⟩
theorem MakF.mono (D : MakF P w K mg base CX j x C ps sp) (h : j ≤ k) : MakF P w K mg base CX k x C ps sp := let ⟨f, fd, F, r⟩ := D; ⟨f, fd, F.mono h, r⟩
theorem ProF.mono (D : ProF P w K mg base CX j C m sp) (h : j ≤ k) : ProF P w K mg base CX k C m sp := let ⟨f, fd, g, F, r⟩ := D; ⟨f, fd, g, F.mono h, r⟩
theorem DefF.imp (D : DefF P w K mg base CX k x ps sp) (h : ∀ vs H Q E, sp' vs H Q E → sp vs H Q E) : DefF P w K mg base CX k x ps sp' := let ⟨f, fd, F, r⟩ := D; ⟨f, fd, F.imp h, r⟩
theorem MetF.imp (D : MetF P w K mg base CX k C m ps sp) (h : ∀ vs H Q E, sp' vs H Q E → sp vs H Q E) : MetF P w K mg base CX k C m ps sp' := let ⟨f, fd, F, r⟩ := D; ⟨f, fd, F.imp h, r⟩
end
section
variable {X : Cx} {CX : CXT} {k : Nat} {C : Addr} {ps : List Str} {sp : Sp} {E : XK} {x m : Str} {p pos apos : Pos} {e o : Expr} {es : List Expr} {ta : TE} {t : TA}
theorem pe_cD (D : DefF X.prog X.w X.K X.mg X.base CX k x ps sp) (hr : Room k X.A) (hg : Gl X x) (hx : Passes CX X E) (ha : PA X (e :: es) t) (hdb : (x == ("__debug__" : Str)) = false := by decide)
    (he : starEach (e :: es) X.env = (false, eval e X.env) :: starEach es X.env := by rfl) (hpl : (backTo pos (starEach es X.env)).any (·.1) = false := by rfl) :
    PE X (.Call (.Name x p) (e :: es) [] pos) (tCall sp [] E t) := by
  obtain ⟨f, fd, F, h1, h2, h3⟩ := D
  exact pe_call F hr hg h1 h2 h3 .nil hx ha hdb he hpl
theorem pe_mD {pl : Sem Bool} (he : PE X o ta) (c : Cls X.K C) (D : MetF X.prog X.w X.K X.mg X.base CX k C m ps sp) (hr : Room k X.A) (hx : Passes CX X E) (ha : PA X (e :: es) t)
    (hst : starEach (e :: es) X.env = (false, eval e X.env) :: starEach es X.env := by rfl) (hpl : (backTo pos (starEach es X.env)).any (·.1) = false := by rfl)
    (ht : eval (.Call (.Attribute o m apos) (e :: es) [] pos) X.env = (do
      let ov ← eval o X.env
      standAt apos.atName
      let (f, first) ← holding [ov] (getMethod ov m pl)
      callWith pos f first (backTo pos (starEach (e :: es) X.env)) (backToKw pos (keywordEach [] X.env))) := by rfl) :
    PE X (.Call (.Attribute o m apos) (e :: es) [] pos) (tMeth C m sp [] E ta t) := by
  obtain ⟨f, fd, F, h1, h2⟩ := D
  exact pe_meth he c h1 F hr h2 .nil hx ha hst hpl ht
theorem pe_mD0 {pl : Sem Bool} (he : PE X o ta) (c : Cls X.K C) (D : MetF X.prog X.w X.K X.mg X.base CX k C m ps sp) (hr : Room k X.A) (hx : Passes CX X E)
    (ht : eval (.Call (.Attribute o m apos) [] [] pos) X.env = (do
      let ov ← eval o X.env
      standAt apos.atName
      let (f, first) ← holding [ov] (getMethod ov m pl)
      callWith pos f first (backTo pos (starEach [] X.env)) (backToKw pos (keywordEach [] X.env))) := by rfl) :
    PE X (.Call (.Attribute o m apos) [] [] pos) (tMeth C m sp [] E ta tNil) := by
  obtain ⟨f, fd, F, h1, h2⟩ := D
  exact pe_meth0 he c h1 F hr h2 .nil hx ht
theorem pe_kD (D : MakF X.prog X.w X.K X.mg X.base CX k x C ps sp) (hr : Room (k + 1) X.A) (hg : Gl X x) (hx : Passes CX X E) (ha : PA X (e :: es) t) (hdb : (x == ("__debug__" : Str)) = false := by decide)
    (he : starEach (e :: es) X.env = (false, eval e X.env) :: starEach es X.env := by rfl) (hpl : (backTo pos (starEach es X.env)).any (·.1) = false := by rfl) :
    PE X (.Call (.Name x p) (e :: es) [] pos) (tMake C sp [] E t) := by
  obtain ⟨f, fd, F, h1, h2, h3⟩ := D
  exact pe_make h1 F hr hg h2 h3 .nil hx ha hdb he hpl
theorem pe_pD (he : PE X e ta) (c : Cls X.K C) (D : ProF X.prog X.w X.K X.mg X.base CX k C m sp) (hr : Room (k + 1) X.A) (hx : Passes CX X.nox E) (hab : attributeBase e m X.env (eval e X.env) = eval e X.env) :
    PE X (.Attribute e m pos) (tProp C sp [] E ta) := by
  obtain ⟨q, g, fd, F, h1, h2⟩ := D
  exact pe_prop he c h1 F hr h2 .nil hx hab
end
end OH
end
section
set_option Elab.async false
set_option linter.all false
set_option maxRecDepth 100000
set_option maxHeartbeats 8000000
namespace OH
open PySem PySem.Spec PyProof.Rows L2
inductive Crs where
  | start (n : Int) | call (a b d n : Int) | back (a b n : Int) | deep (a b d n : Int) | done (n : Int) | fin (a : Int)
deriving DecidableEq
def Crs.vs : Crs → List V
  | .start n => [.str "start", .int n]
  | .call a b d n => [.str "call", .int a, .int b, .int d, .int n]
  | .back a b n => [.str "back", .int a, .int b, .int n]
  | .deep a b d n => [.str "deep", .int a, .int b, .int d, .int n]
  | .done n => [.str "done", .int n]
  | .fin a => [.str "end", .int a]
def Num (z : Int) : Prop := 0 ≤ z ∧ z ≤ 9999
/-- tuples at addresses, told by f -/
inductive AllAt {α : Type} (H : Hp) (f : α → List V) : List Addr → List α → Prop where
  | nil : AllAt H f [] []
  | cons {p : Addr} {x : α} {ps : List Addr} {xs : List α} : H p = some (.tup (f x)) → AllAt H f ps xs → AllAt H f (p :: ps) (x :: xs)
section
variable {α : Type} {H H' : Hp} {f : α → List V} {ps : List Addr} {xs : List α}
theorem AllAt.mono (h : AllAt H f ps xs) (k : ∀ q ys, H q = some (.tup ys) → H' q = some (.tup ys)) : AllAt H' f ps xs := by
  induction h with
  | nil => exact .nil
  | cons a _ ih => exact .cons (k _ _ a) ih
theorem AllAt.len (h : AllAt H f ps xs) : ps.length = xs.length := by
  induction h with
  | nil => rfl
  | cons _ _ ih => exact congrArg (· + 1) ih
theorem AllAt.app (h : AllAt H f ps xs) {p : Addr} {x : α} (hp : H p = some (.tup (f x))) : AllAt H f (ps ++ [p]) (xs ++ [x]) := by
  induction h with
  | nil => exact .cons hp .nil
  | cons a _ ih => exact .cons a ih
theorem AllAt.get (h : AllAt H f ps xs) : ∀ {i : Nat} {x : α}, xs[i]? = some x → ∃ p, ps[i]? = some p ∧ H p = some (.tup (f x)) := by
  induction h with
  | nil => intro i x e; cases i <;> cases e
  | cons a _ ih =>
    intro i x e
    cases i with
    | zero => exact ⟨_, rfl, by cases e; exact a⟩
    | succ i => exact ih e
theorem AllAt.take (h : AllAt H f ps xs) : ∀ n, AllAt H f (ps.take n) (xs.take n) := by
  induction h with
  | nil => intro n; cases n <;> exact .nil
  | cons a _ ih =>
    intro n
    cases n with
    | zero => exact .nil
    | succ n => exact .cons a (ih n)
theorem AllAt.pop (h : AllAt H f ps xs) : AllAt H f ps.dropLast xs.dropLast := by
  rw [List.dropLast_eq_take, List.dropLast_eq_take, h.len]
  exact h.take _
end
def pairV (q : Int × Int) : List V := [.int q.1, .int q.2]
structure Txt3 (mg : Str → Option Value) : Prop where
  gOpen : ∃ t, mg "MOST_OPEN" = some (.int 60 t)
  gRooms : ∃ t, mg "MOST_ROOMS" = some (.int 6 t)
  gImp : ∃ t, mg "MOST_IMPORTS" = some (.int 8 t)
  nSet : mg "set" = none
theorem isT_of {H : Hp} {a : Addr} {xs : List V} {lo hi : Int} (h : H a = some (.tup xs)) (h1 : lo ≤ (xs.length : Int)) (h2 : (xs.length : Int) ≤ hi) : isT H lo hi (.ref a) = true := by
  show (match H a with | some (.tup xs) => decide (lo ≤ (xs.length : Int)) && decide ((xs.length : Int) ≤ hi) | _ => false) = true
  rw [h]
  show (decide (lo ≤ (xs.length : Int)) && decide ((xs.length : Int) ≤ hi)) = true
  rw [decide_eq_true h1, decide_eq_true h2]
  rfl
theorem isW_in {lo hi i : Int} (h1 : lo ≤ i) (h2 : i ≤ hi) : isW lo hi (.int i) = true := by
  show (decide (lo ≤ i) && decide (i ≤ hi)) = true
  rw [decide_eq_true h1, decide_eq_true h2]
  rfl
theorem PairsAt.len {H : Hp} {ps : List Addr} {ws : List (Int × Int)} (h : PairsAt H ps ws) : ps.length = ws.length := by
  induction h with
  | nil => rfl
  | cons _ _ ih => exact congrArg (· + 1) ih
theorem PairsAt.get {H : Hp} {ps : List Addr} {ws : List (Int × Int)} (h : PairsAt H ps ws) : ∀ {i : Nat} {p : Addr}, ps[i]? = some p → ∃ q, ws[i]? = some q ∧ H p = some (.tup [.int q.1, .int q.2]) := by
  induction h with
  | nil => intro i p e; cases i <;> cases e
  | cons a _ ih =>
    intro i p e
    cases i with
    | zero => exact ⟨_, rfl, by cases e; exact a⟩
    | succ i => exact ih e
/-- pairs as lists of two -/
def keysP (ps : List Addr) (ws : List (Int × Int)) : List (Addr × List Int) := ps.zip (ws.map fun q => [q.1, q.2])
theorem keysP_facts {H : Hp} {ps : List Addr} {ws : List (Int × Int)} (h : PairsAt H ps ws) : (keysP ps ws).map (fun p => V.ref p.1) = ps.map V.ref ∧ (∀ p ∈ keysP ps ws, H p.1 = some (.tup (p.2.map V.int))) ∧ (keysP ps ws).map (·.2) = ws.map fun q => [q.1, q.2] := by
  induction h with
  | nil => exact ⟨rfl, fun p hp => absurd hp List.not_mem_nil, rfl⟩
  | @cons p q ps ws a _ ih =>
    obtain ⟨h1, h2, h3⟩ := ih
    refine ⟨?_, fun x hx => ?_, ?_⟩
    · show V.ref p :: (keysP ps ws).map (fun p => V.ref p.1) = V.ref p :: ps.map V.ref
      rw [h1]
    · rcases List.mem_cons.mp (show x ∈ (p, [q.1, q.2]) :: keysP ps ws from hx) with e | e
      · rw [e]; exact a
      · exact h2 x e
    · show [q.1, q.2] :: (keysP ps ws).map (·.2) = [q.1, q.2] :: ws.map fun q => [q.1, q.2]
      rw [h3]
theorem nodup_pairs (ws : List (Int × Int)) : (ws.map fun q => [q.1, q.2]).Nodup ↔ ws.Nodup := by
  constructor
  · exact fun h => L2.nodup_of_map h
  · intro h
    induction ws with
    | nil => exact List.nodup_nil
    | cons w ws ih =>
      obtain ⟨h1, h2⟩ := List.nodup_cons.mp h
      refine List.nodup_cons.mpr ⟨fun z => ?_, ih h2⟩
      obtain ⟨q, hq, e⟩ := List.mem_map.mp z
      refine h1 ?_
      injection e with e1 e2
      injection e2 with e2 _
      rw [show w = q from Prod.ext e1.symm e2.symm]
      exact hq
def spUnlike : Sp := fun vs H Q _ => ∃ (a : Addr) (ps : List Addr) (ws : List (Int × Int)), vs = [.ref a] ∧ H a = some (.tup (ps.map V.ref)) ∧ PairsAt H ps ws ∧ ws.length < 64 ∧ Q (.bl (decide ws.Nodup)) H
def spWires : Sp := fun vs H Q _ => ∃ (a dl : Addr) (own : Int) (ps : List Addr) (ws : List (Int × Int)) (ds : List Int), vs = [.ref a, .int own, .ref dl] ∧ H a = some (.tup (ps.map V.ref)) ∧ PairsAt H ps ws ∧ ws.length ≤ 8 ∧ ws.Nodup ∧ H dl = some (.tup (ds.map V.int)) ∧
  (∀ p ∈ ws, 0 ≤ p.1 ∧ p.1 < (ds.length : Int) ∧ p.1 ≠ own ∧ 0 ≤ p.2 ∧ p.2 < ds.getD p.1.toNat 0) ∧ Q (.bl true) H
def spNeedR : Sp := fun vs H Q _ => ∃ i m : Int, vs = [.int i, .int m] ∧ 0 ≤ i ∧ i < m ∧ Q .non H
section
variable {P : Program} {w : World} {K : PySem.W.Frag} {mg : Str → Option Value} {base : Heap} {CS CR aE : Addr}
end
end OH
end
section
set_option Elab.async false
set_option linter.all false
set_option maxRecDepth 100000
set_option maxHeartbeats 8000000
/-! The law's shuffling. -/
namespace OH
open PySem PySem.Spec PyProof.Rows L2
section
variable {H H' : Hp}
theorem PairsAt.erase {ps : List Addr} {ws : List (Int × Int)} (h : PairsAt H ps ws) : ∀ k, PairsAt H (ps.eraseIdx k) (ws.eraseIdx k) := by
  induction h with
  | nil => intro k; cases k <;> exact .nil
  | cons a b ih =>
    intro k
    cases k with
    | zero => exact b
    | succ k => exact .cons a (ih k)
theorem PairsAt.app {ps : List Addr} {ws : List (Int × Int)} (h : PairsAt H ps ws) {p : Addr} {q : Int × Int} (hp : H p = some (.tup [.int q.1, .int q.2])) : PairsAt H (ps ++ [p]) (ws ++ [q]) := by
  induction h with
  | nil => exact .cons hp .nil
  | cons a _ ih => exact .cons a ih
theorem PairsAt.apps {ps qs : List Addr} {ws us : List (Int × Int)} (h : PairsAt H ps ws) (h2 : PairsAt H qs us) : PairsAt H (ps ++ qs) (ws ++ us) := by
  induction h with
  | nil => exact h2
  | cons a _ ih => exact .cons a ih
theorem PairsAt.taken {ps : List Addr} {ws : List (Int × Int)} (h : PairsAt H ps ws) : ∀ k, PairsAt H (ps.take k) (ws.take k) := by
  induction h with
  | nil => intro k; cases k <;> exact .nil
  | cons a _ ih =>
    intro k
    cases k with
    | zero => exact .nil
    | succ k => exact .cons a (ih k)
theorem map_erase {α β : Type} (f : α → β) : ∀ (l : List α) (k : Nat), (l.map f).eraseIdx k = (l.eraseIdx k).map f
  | [], k => by cases k <;> rfl
  | x :: l, 0 => rfl
  | x :: l, k + 1 => congrArg (f x :: ·) (map_erase f l k)
theorem erase_perm {α : Type} : ∀ (l : List α) (k : Nat) (x : α), l[k]? = some x → (x :: l.eraseIdx k).Perm l
  | [], k, x, h => by cases k <;> cases h
  | y :: l, 0, x, h => by cases h; exact List.Perm.refl _
  | y :: l, k + 1, x, h => ((List.Perm.swap y x _).trans ((erase_perm l k x h).cons y))
theorem fr_tup {st g c : Addr} {n : Nat} (S : SA H st g c n) (F : Fr st g H H') : ∀ q xs, H q = some (.tup xs) → H' q = some (.tup xs) := fun q xs e => by
  obtain ⟨_, ⟨gs, g1, _⟩, _⟩ := id S
  exact F q _ e (S.ne_st e (fun _ z => nomatch z)) (ne_of e g1 (fun z => nomatch z))
/-- a new list of the same pairs in another sequence -/
def spShuf : Sp := fun vs H Q _ => ∃ (st g c a : Addr) (n : Nat) (ps : List Addr) (qs : List (Int × Int)), vs = [.ref st, .ref a] ∧ SA H st g c n ∧ n ≤ 800000 ∧ H a = some (.lst (ps.map V.ref)) ∧ PairsAt H ps qs ∧ a ≠ g ∧ ps.length ≤ 1000 ∧
  ∀ (p : Addr) (ps' : List Addr) (qs' : List (Int × Int)) (H' : Hp), H p = none → p ≠ st → p ≠ g → p ≠ c → H' p = some (.lst (ps'.map V.ref)) → PairsAt H' ps' qs' → qs'.Perm qs → SA H' st g c (n + ps.length) → Fr st g H H' → Q (.ref p) H'
theorem eqv_nil (ws : List PyData) : PyData.eqv (.list ws) (.list []) = ws.isEmpty := by
  cases ws <;> rfl
end
section
variable {P : Program} {w : World} {K : PySem.W.Frag} {mg : Str → Option Value} {base : Heap} {CS CR CM aE : Addr}
theorem sc__law_shuffled : FnScope ["state", "some", "left", "found"] ["state", "some"] (defScope s__law_shuffled) := ⟨rfl, rfl, rfl, by decide +kernel, rfl, by decide +kernel, by decide +kernel⟩
theorem ok__law_shuffled {f : Addr} {fd : FuncData} (F : Fun K "_law_shuffled" "_law_shuffled" s__law_shuffled f fd) (T : Txt K mg)
    (DD : DefF P w K mg base CX0 2 "_law_draw" ["state", "room"] spDraw) : FnOk P w K mg base CX0 3 f fd ["state", "some"] spShuf := by
  refine F.ok sc__law_shuffled (fun vs H Q E h => ?_) (fun cdv A outer s H vs Q E hr h => ?_)
  · obtain ⟨st, g, c, a, n, ps, qs, rfl, _⟩ := h
    rfl
  · obtain ⟨st, g, c, a, n, ps, qs, rfl, S, hn, ha, hp, ag, l1, k⟩ := h
    have nd := sc__law_shuffled.nd
    refine ⟨_, pss_cons (ps_par (i := 2) (j := 3) (by rfl) nd rfl rfl (by decide) rfl rfl (pa_cons (pe_callTy call_list_of (by rfl) T.nList (by decide +kernel) (pa_cons (pv 1) pa_nil)) (pa_cons (pe_lst pa_nil) pa_nil)) (by rfl))
      (pss_cons (ps_while PassesOwn.never (pt_cmpR (op_neD hr.units) (pv 2) (pe_lst pa_nil) (nomark _))
        (pss_one (ps_expr (pe_bm PySem.F.plainAttrs_list PySem.F.slot_list_append PySem.F.type_list_append mt_append (pv 3)
          (pa_cons (pe_bm PySem.F.plainAttrs_list PySem.F.slot_list_pop PySem.F.type_list_pop mt_popAt (pv 2) (pa_cons (pe_cD DD hr rfl pass0 (pa_cons (pv 0) (pa_cons (pe_callB call_len_seq (by rfl) T.nLen PySem.boot_len (pa_cons (pv 2) pa_nil)) pa_nil))) pa_nil)) pa_nil)))))
      (pss_one (ps_ret (pv 3)))), ?_⟩
    refine ⟨_, rfl, a, _, rfl, .inl (SqL.of ha), fun L nL => ⟨(by show 0 ≤ sizeLine; decide), fun D nD => ⟨_, _, rfl, ?_⟩⟩⟩
    have s1 := sadd (o := .lst (ps.map V.ref)) (Same.refl H) nL
    have s2 := sadd (o := .lst []) s1 nD
    have nLD : L ≠ D := ne_of_none upd_same nD
    have zL := S.old nL
    have zD := S.old (s1.free nD)
    have hL0 : upd (upd H L (.lst (ps.map V.ref))) D (.lst []) L = some (.lst (ps.map V.ref)) := upd_under nLD
    have hD0 : upd (upd H L (.lst (ps.map V.ref))) D (.lst []) D = some (.lst []) := upd_same
    have D0 : H D = none := s1.free nD
    generalize upd (upd H L (.lst (ps.map V.ref))) D (.lst []) = H1 at s2 hL0 hD0 ⊢
    refine while_by (fun σ H' => ∃ (p1 p2 : List Addr) (q1 q2 : List (Int × Int)), σ = [some (.ref st), some (.ref a), some (.ref L), some (.ref D)] ∧ H' L = some (.lst (p1.map V.ref)) ∧ H' D = some (.lst (p2.map V.ref)) ∧ PairsAt H' p1 q1 ∧ PairsAt H' p2 q2 ∧
        (q1 ++ q2).Perm qs ∧ p1.length + p2.length = ps.length ∧ SA H' st g c (n + p2.length) ∧ Fr st g H H')
      (fun _ H' => match H' L with | some (.lst xs) => xs.length | _ => 0) ?h0 ?turn ?mono
    case h0 => exact ⟨ps, [], qs, [], rfl, hL0, hD0, hp.mono (fun q xs e => s2 _ _ e), .nil, by rw [List.append_nil], rfl, S.same s2, Fr.of s2⟩
    case mono =>
      rintro σ H' Q1 Q2 hQ ⟨x, e1, hl, f⟩
      refine ⟨x, e1, hl, fun l nl => ?_⟩
      obtain ⟨d, e, h1, h2, h3, h4, kk, e5, q⟩ := f l nl
      exact ⟨d, e, h1, h2, h3, h4, kk, e5, hQ _ _ q⟩
    case turn =>
      rintro σ H2 ⟨p1, p2, q1, q2, rfl, hL, hD, hp1, hp2, pm, hlen, S2, F2⟩
      refine ⟨_, rfl, (by show 0 ≤ sizeLine; decide), fun l nl => ?_⟩
      have sl := sadd (o := .lst []) (Same.refl H2) nl
      have hl1 : upd H2 l (.lst []) l = some (.lst []) := upd_same
      have hL3 := sl _ _ hL
      have hD3 := sl _ _ hD
      have hp13 := hp1.mono fun q xs e => sl _ _ e
      have hp23 := hp2.mono fun q xs e => sl _ _ e
      have S3 := S2.same sl
      have F3 := F2.trans (Fr.of sl)
      have eL : (match H2 L with | some (.lst xs) => xs.length | _ => 0) = p1.length := by rw [hL]; exact List.length_map ..
      generalize upd H2 l (.lst []) = H3 at sl hl1 hL3 hD3 hp13 hp23 S3 F3 ⊢
      refine ⟨.list (q1.map pairD), .list [], .lst (SqL.of hL3) hp13.dp, .lst (SqL.of hl1) .nil, shaped_pairs q1, rfl, _, rfl, ?_⟩
      rw [eqv_nil]
      have l11 := hp13.len
      cases q1 with
      | nil =>
        refine iteF ?_
        have e1 : p1 = [] := List.length_eq_zero_iff.mp l11
        subst e1
        have e2 : p2.length = ps.length := by
          have : ([] : List Addr).length = 0 := rfl
          omega
        refine ⟨_, rfl, k D p2 q2 H3 D0 zD.1 zD.2.1 zD.2.2 hD3 hp23 pm (by rw [← e2]; exact S3) F3⟩
      | cons w q1 =>
        refine iteT ?_
        have pos : 0 < p1.length := by rw [l11]; exact Nat.succ_pos _
        refine ⟨_, rfl, .inl ⟨rfl, _, SqL.of hD3⟩, _, rfl, .inl ⟨rfl, _, SqL.of hL3⟩, ?_⟩
        refine ⟨_, rfl, _, rfl, L, _, rfl, .inl (SqL.of hL3), ?_⟩
        rw [List.length_map]
        refine ⟨st, g, c, n + p2.length, _, rfl, S3, by omega, by omega, by omega, fun z H4 z0 z1 S4 F4 => ?_⟩
        have hL4 := F4 L _ hL3 zL.1 zL.2.1
        have hD4 := F4 D _ hD3 zD.1 zD.2.1
        have hp14 := hp13.mono (fr_tup S3 F4)
        have hp24 := hp23.mono (fr_tup S3 F4)
        have hz : z.toNat < p1.length := by omega
        obtain ⟨r, hr1⟩ : ∃ r, p1[z.toNat]? = some r := ⟨_, List.getElem?_eq_getElem hz⟩
        obtain ⟨v, hv1, hv2⟩ := hp14.get hr1
        have sx : seqIndex? z (p1.map V.ref).length = some z.toNat := (ixN_seq (by unfold L2.ixN; rw [if_pos z0, if_pos (by rw [List.length_map]; omega)])).1
        refine ⟨L, _, z, z.toNat, .ref r, rfl, rfl, hL4, by omega, by omega, sx, (by rw [List.getElem?_map, hr1]; rfl), ?_⟩
        have eE : (p1.map V.ref).eraseIdx z.toNat = (p1.eraseIdx z.toNat).map V.ref := by
          exact map_erase ..
        rw [eE]
        have kt : ∀ (o : List V) q xs, H4 q = some (.tup xs) → upd H4 L (.lst o) q = some (.tup xs) := fun o q xs e => (upd_ne (ne_of e hL4 (fun y => nomatch y))).trans e
        refine ⟨D, _, _, rfl, rfl, (upd_ne nLD.symm).trans hD4, (by rw [List.length_map, sizeLine_eq]; omega), ?_⟩
        have kt2 : ∀ (o o2 : List V) q xs, H4 q = some (.tup xs) → upd (upd H4 L (.lst o)) D (.lst o2) q = some (.tup xs) := fun o o2 q xs e => (upd_ne (ne_of e hD4 (fun y => nomatch y))).trans (kt o q xs e)
        have S5 : SA (upd (upd H4 L (.lst ((p1.eraseIdx z.toNat).map V.ref))) D (.lst (p2.map V.ref ++ [.ref r]))) st g c (n + p2.length + 1) := (S4.put zL).put zD
        have el2 : (p1.eraseIdx z.toNat).length = p1.length - 1 := by rw [List.length_eraseIdx, if_pos hz]
        refine ⟨⟨p1.eraseIdx z.toNat, p2 ++ [r], (w :: q1).eraseIdx z.toNat, q2 ++ [v], rfl, (upd_ne nLD).trans upd_same, by rw [upd_same, List.map_append]; rfl, ?_, ?_, ?_, ?_, ?_, ?_⟩, ?_⟩
        · exact (hp14.erase _).mono (kt2 _ _)
        · exact (hp24.mono (kt2 _ _)).app (kt2 _ _ _ _ hv2)
        · refine List.Perm.trans ?_ pm
          have e1 := erase_perm (w :: q1) z.toNat v hv1
          have e2 : ((w :: q1).eraseIdx z.toNat ++ (q2 ++ [v])).Perm ((w :: q1).eraseIdx z.toNat ++ ([v] ++ q2)) := (List.perm_append_comm).append_left _
          refine e2.trans ?_
          rw [← List.append_assoc]
          exact ((List.perm_append_comm).trans e1).append_right _
        · rw [List.length_append, el2]
          show p1.length - 1 + (p2.length + 1) = _
          omega
        · rw [List.length_append]
          exact S5
        · intro b o e h1 h2
          have e4 := (F3.trans F4) b o e h1 h2
          have nbL : b ≠ L := ne_of_none e nL
          have nbD : b ≠ D := ne_of_none e D0
          exact (upd_ne nbD).trans ((upd_ne nbL).trans e4)
        · show (match upd (upd H4 L (.lst ((p1.eraseIdx z.toNat).map V.ref))) D (.lst (p2.map V.ref ++ [.ref r])) L with | some (.lst xs) => xs.length | _ => 0) < (match H2 L with | some (.lst xs) => xs.length | _ => 0)
          rw [eL, (upd_ne nLD).trans upd_same]
          show ((p1.eraseIdx z.toNat).map V.ref).length < _
          rw [List.length_map, el2]
          omega
end
end OH
end
section
set_option Elab.async false
set_option linter.all false
set_option maxRecDepth 100000
set_option maxHeartbeats 1000000
/-! Rows and views in plain words. -/
namespace OH
open PySem PySem.Spec PyProof.Rows L2
inductive It where
  | inn (d n : Int) | got (n : Int) | calls (a d n : Int) | gives (n : Int) | ends
deriving DecidableEq
def It.vs : It → List V
  | .inn d n => [.str "in", .int d, .int n]
  | .got n => [.str "got", .int n]
  | .calls a d n => [.str "calls", .int a, .int d, .int n]
  | .gives n => [.str "gives", .int n]
  | .ends => [.str "ends"]
/-- a face: its depth, room by room its wires, the counts of doors -/
structure Fc where
  dep : Int
  wir : List (List (Int × Int))
  dor : List Int
def Fc.ws (F : Fc) (i : Nat) : List (Int × Int) := F.wir.getD i []
def Fc.R (F : Fc) : Nat := F.dor.length
structure Fc.Ok (F : Fc) : Prop where
  d1 : 1 ≤ F.dep
  d60 : F.dep ≤ 60
  lw : F.wir.length = F.R
  m1 : 1 ≤ F.R
  m6 : F.R ≤ 6
  dz : ∀ z ∈ F.dor, 1 ≤ z ∧ z ≤ 6
  wi : ∀ i, i < F.R → (F.ws i).length ≤ 8 ∧ (F.ws i).Nodup ∧ ∀ p ∈ F.ws i, 0 ≤ p.1 ∧ p.1 < (F.R : Int) ∧ p.1 ≠ i ∧ 0 ≤ p.2 ∧ p.2 < F.dor.getD p.1.toNat 0
abbrev Rs := Option Int × List (Int × Int)
/-- control and the open asks behind a crossing -/
def bh (s : Rs) : Crs → Rs
  | .start _ => (some 0, s.2)
  | .call a b _ _ => (some b, s.2 ++ [(a, b)])
  | .back _ b _ => (some b, s.2.dropLast)
  | _ => (none, s.2)
/-- what may come next where c has control -/
def Nx (F : Fc) (c : Int) (asks : List (Int × Int)) : Crs → Prop
  | .start _ => False
  | .call a b d n => a = c ∧ (b, d) ∈ F.ws c.toNat ∧ (asks.length : Int) < F.dep ∧ Num n
  | .deep a b d n => a = c ∧ (b, d) ∈ F.ws c.toNat ∧ (asks.length : Int) = F.dep ∧ Num n
  | .back a b n => a = c ∧ (∃ q, asks.getLast? = some q ∧ b = q.1) ∧ Num n
  | .done n => asks = [] ∧ Num n
  | .fin a => a = c
def VRr (F : Fc) : Rs → List Crs → Prop
  | _, [] => True
  | s, x :: xs => (∃ c, s.1 = some c ∧ Nx F c s.2 x) ∧ VRr F (bh s x) xs
def VR (F : Fc) (cs : List Crs) : Prop := ∃ n xs, cs = .start n :: xs ∧ Num n ∧ VRr F (some 0, []) xs
/-- the open asks hang together -/
inductive Chain (F : Fc) : List (Int × Int) → Int → Prop where
  | nil : Chain F [] 0
  | snoc {as : List (Int × Int)} {a b : Int} : Chain F as a → 0 ≤ b → b < (F.R : Int) → a ≠ b → Chain F (as ++ [(a, b)]) b
def stt (s : Rs) (cs : List Crs) : Rs := cs.foldl bh s
structure SOk (F : Fc) (s : Rs) : Prop where
  ch : ∃ c, Chain F s.2 c ∧ (s.1 = some c ∨ s.1 = none)
  le : (s.2.length : Int) ≤ F.dep
theorem Chain.inv {F : Fc} {asks : List (Int × Int)} {c : Int} (h : Chain F asks c) : (asks = [] ∧ c = 0) ∨ ∃ as a, asks = as ++ [(a, c)] ∧ Chain F as a ∧ a ≠ c := by
  cases h with
  | nil => exact .inl ⟨rfl, rfl⟩
  | snoc h h1 h2 h3 => exact .inr ⟨_, _, rfl, h, h3⟩
theorem Chain.rng {F : Fc} (hF : F.Ok) {asks : List (Int × Int)} {c : Int} (h : Chain F asks c) : 0 ≤ c ∧ c < (F.R : Int) := by
  cases h with
  | nil => have := hF.m1; exact ⟨by omega, by omega⟩
  | snoc _ h1 h2 _ => exact ⟨h1, h2⟩
theorem SOk.ctl {F : Fc} {s : Rs} (h : SOk F s) {c : Int} (hc : s.1 = some c) : Chain F s.2 c := by
  obtain ⟨c', h1, h2 | h2⟩ := h.ch
  · rw [hc] at h2
    cases h2
    exact h1
  · rw [hc] at h2
    cases h2
theorem SOk.step {F : Fc} (hF : F.Ok) {s : Rs} (h : SOk F s) {c : Int} (hc : s.1 = some c) {x : Crs} (hx : Nx F c s.2 x) : SOk F (bh s x) := by
  have ch := h.ctl hc
  obtain ⟨c0, c1⟩ := ch.rng hF
  cases x with
  | start n => exact hx.elim
  | call a b d n =>
    obtain ⟨e, hw, hl, _⟩ := hx
    subst e
    obtain ⟨w1, w2, w3, _⟩ := (hF.wi a.toNat (by omega)).2.2 _ hw
    have w1' : 0 ≤ b := w1
    have w2' : b < (F.R : Int) := w2
    have w3' : b ≠ (a.toNat : Int) := w3
    refine ⟨⟨b, .snoc ch w1' w2' (by omega), .inl rfl⟩, ?_⟩
    show ((s.2 ++ [(a, b)]).length : Int) ≤ F.dep
    rw [List.length_append]
    show ((s.2.length + 1 : Nat) : Int) ≤ _
    omega
  | back a b n =>
    obtain ⟨e, ⟨q, hq, hb⟩, _⟩ := hx
    have hl := h.le
    rcases ch.inv with ⟨e0, _⟩ | ⟨as, a', e0, h0, _⟩
    · rw [e0] at hq
      cases hq
    · rw [e0, List.getLast?_concat] at hq
      cases hq
      have hb' : b = a' := hb
      subst hb'
      refine ⟨⟨b, ?_, .inl rfl⟩, ?_⟩
      · show Chain F s.2.dropLast b
        rw [e0, List.dropLast_concat]
        exact h0
      · show (s.2.dropLast.length : Int) ≤ F.dep
        rw [List.length_dropLast]
        omega
  | deep a b d n => exact ⟨⟨c, ch, .inr rfl⟩, h.le⟩
  | done n => exact ⟨⟨c, ch, .inr rfl⟩, h.le⟩
  | fin a => exact ⟨⟨c, ch, .inr rfl⟩, h.le⟩
theorem SOk.init {F : Fc} (hF : F.Ok) : SOk F (some 0, []) := ⟨⟨0, .nil, .inl rfl⟩, by have := hF.d1; show ((0 : Nat) : Int) ≤ F.dep; omega⟩
theorem VRr.ok {F : Fc} (hF : F.Ok) : ∀ {xs : List Crs} {s : Rs}, SOk F s → VRr F s xs → SOk F (stt s xs)
  | [], _, h, _ => h
  | x :: xs, s, h, ⟨⟨c, hc, hx⟩, hr⟩ => VRr.ok (xs := xs) (s := bh s x) hF (h.step hF hc hx) hr
theorem VRr.take {F : Fc} : ∀ {xs : List Crs} {s : Rs}, VRr F s xs → ∀ k, VRr F s (xs.take k)
  | [], _, _, k => by rw [List.take_nil]; trivial
  | x :: xs, s, ⟨h1, h2⟩, 0 => trivial
  | x :: xs, s, ⟨h1, h2⟩, k + 1 => ⟨h1, h2.take k⟩
theorem VRr.snoc {F : Fc} {x : Crs} {c : Int} : ∀ {xs : List Crs} {s : Rs}, VRr F s xs → (stt s xs).1 = some c → Nx F c (stt s xs).2 x → VRr F s (xs ++ [x])
  | [], s, _, h1, h2 => ⟨⟨c, h1, h2⟩, trivial⟩
  | y :: xs, s, ⟨h0, hr⟩, h1, h2 => ⟨h0, hr.snoc h1 h2⟩
theorem VR.take {F : Fc} {cs : List Crs} (h : VR F cs) (k : Nat) : VR F (cs.take (k + 1)) := by
  obtain ⟨n, xs, rfl, hn, hr⟩ := h
  exact ⟨n, xs.take k, rfl, hn, hr.take k⟩
theorem VR.snoc {F : Fc} {cs : List Crs} (h : VR F cs) {x : Crs} {c : Int} (h1 : (stt (none, []) cs).1 = some c) (h2 : Nx F c (stt (none, []) cs).2 x) : VR F (cs ++ [x]) := by
  obtain ⟨n, xs, rfl, hn, hr⟩ := h
  exact ⟨n, xs ++ [x], rfl, hn, hr.snoc h1 h2⟩
theorem VR.ok {F : Fc} (hF : F.Ok) {cs : List Crs} (h : VR F cs) : SOk F (stt (none, []) cs) := by
  obtain ⟨n, xs, rfl, hn, hr⟩ := h
  exact VRr.ok (s := (some 0, [])) (xs := xs) hF (SOk.init hF) hr
theorem stt_snoc (s : Rs) (cs : List Crs) (x : Crs) : stt s (cs ++ [x]) = bh (stt s cs) x := by
  unfold stt
  rw [List.foldl_append]
  rfl
/-- what a crossing shows of a room -/
def shown (r : Int) : Crs → List It
  | .start n => if r = 0 then [.inn 0 n] else []
  | .call a b d n => (if r = a then [It.calls b d n] else []) ++ (if r = b then [It.inn d n] else [])
  | .back a b n => (if r = a then [It.gives n] else []) ++ (if r = b then [It.got n] else [])
  | .deep a b d n => if r = a then [.calls b d n] else []
  | .done n => if r = 0 then [.gives n] else []
  | .fin a => if r = a then [.ends] else []
def vw (r : Int) (cs : List Crs) : List It := cs.flatMap (shown r)
theorem vw_app (r : Int) (xs ys : List Crs) : vw r (xs ++ ys) = vw r xs ++ vw r ys := List.flatMap_append ..
theorem vw_cons (r : Int) (x : Crs) (ys : List Crs) : vw r (x :: ys) = shown r x ++ vw r ys := List.flatMap_cons ..
theorem vw_le (r : Int) {xs ys : List Crs} (h : xs <+: ys) : vw r xs <+: vw r ys := by
  obtain ⟨zs, rfl⟩ := h
  rw [vw_app]
  exact List.prefix_append ..
end OH
end
section
set_option Elab.async false
set_option linter.all false
set_option maxRecDepth 100000
set_option maxHeartbeats 1000000
/-! Views put together. -/
namespace OH
open PySem PySem.Spec PyProof.Rows L2
structure Jn where
  cnt : List Nat
  asks : List Nat
  joint : List Crs
def vat (vs : List (List It)) (r : Nat) : List It := vs.getD r []
def cat_ (cnt : List Nat) (r : Nat) : Nat := cnt.getD r 0
def nextI (vs : List (List It)) (cnt : List Nat) (r : Nat) : Option It := (vat vs r)[cat_ cnt r]?
def bump (cnt : List Nat) (r : Nat) : List Nat := cnt.set r (cat_ cnt r + 1)
inductive JR where
  | err (r at_ : Nat)
  | ok (c : Option Nat) (J : Jn)
def It.num : It → Int
  | .inn d _ => d
  | .got n => n
  | .calls a _ _ => a
  | .gives n => n
  | .ends => 0
def jact (F : Fc) (vs : List (List It)) (J : Jn) (r : Nat) : JR :=
  match nextI vs J.cnt r with
  | none => .ok none J
  | some (.calls a d n) =>
    if (a, d) ∈ F.ws r then
      if (J.asks.length : Int) = F.dep then .ok none ⟨bump J.cnt r, J.asks, J.joint ++ [.deep r a d n]⟩
      else if nextI vs (bump J.cnt r) a.toNat = some (.inn d n) then .ok (some a.toNat) ⟨bump (bump J.cnt r) a.toNat, J.asks ++ [r], J.joint ++ [.call r a d n]⟩
      else .err a.toNat (cat_ (bump J.cnt r) a.toNat)
    else .err r (cat_ J.cnt r)
  | some .ends => .ok none ⟨bump J.cnt r, J.asks, J.joint ++ [.fin r]⟩
  | some i =>
    match J.asks.getLast? with
    | none => .ok none ⟨bump J.cnt r, J.asks, J.joint ++ [.done i.num]⟩
    | some k => if nextI vs (bump J.cnt r) k = some (.got i.num) then .ok (some k) ⟨bump (bump J.cnt r) k, J.asks.dropLast, J.joint ++ [.back r k i.num]⟩
      else .err k (cat_ (bump J.cnt r) k)
inductive JO where
  | bad (r at_ : Nat)
  | fin (J : Jn)
/-- the loop that puts together, so many turns -/
inductive Runs (F : Fc) (vs : List (List It)) : Nat → Jn → Option Nat → JO → Prop where
  | stop {J : Jn} : Runs F vs 0 J none (.fin J)
  | err {J : Jn} {r a b : Nat} : jact F vs J r = .err a b → Runs F vs 1 J (some r) (.bad a b)
  | step {J J' : Jn} {r m : Nat} {c : Option Nat} {o : JO} : jact F vs J r = .ok c J' → Runs F vs m J' c o → Runs F vs (m + 1) J (some r) o
/-- what stands behind a part of a row -/
structure Jat (F : Fc) (pre : List Crs) (s : Rs) (J : Jn) : Prop where
  lc : J.cnt.length = F.R
  cn : ∀ r, r < F.R → cat_ J.cnt r = (vw (r : Int) pre).length
  as : J.asks.map (fun n : Nat => (n : Int)) = s.2.map (·.1)
  jo : J.joint = pre
/-- views of which each one begins that of the row -/
structure Cuts (F : Fc) (row : List Crs) (vs : List (List It)) : Prop where
  len : vs.length = F.R
  pre : ∀ r, r < F.R → vat vs r <+: vw (r : Int) row
def Vs (F : Fc) (vs : List (List It)) (cs : List Crs) : Prop := ∀ r, r < F.R → vat vs r = vw (r : Int) cs
theorem cat_bump {cnt : List Nat} {r j : Nat} (h : r < cnt.length) : cat_ (bump cnt r) j = if r = j then cat_ cnt r + 1 else cat_ cnt j := by
  unfold bump cat_
  rw [List.getD_eq_getElem?_getD, List.getElem?_set, List.getD_eq_getElem?_getD, List.getD_eq_getElem?_getD]
  by_cases e : r = j
  · subst e
    simp [h]
  · simp [e]
theorem len_bump (cnt : List Nat) (r : Nat) : (bump cnt r).length = cnt.length := List.length_set ..
section
variable {F : Fc} {row pre xs : List Crs} {vs : List (List It)} {s : Rs} {J : Jn}
/-- the next item of a room, if there is one, is the row's -/
theorem Jat.next (h : Jat F pre s J) (hc : Cuts F (pre ++ xs) vs) (hp : ∀ r, r < F.R → (vw (r : Int) pre).length ≤ (vat vs r).length) {r : Nat} (hr : r < F.R) : nextI vs J.cnt r = if (vw (r : Int) pre).length < (vat vs r).length then (vw (r : Int) xs)[0]? else none := by
  unfold nextI
  rw [h.cn r hr]
  obtain ⟨zs, e⟩ := hc.pre r hr
  rw [vw_app] at e
  have hl := hp r hr
  have e2 : vat vs r = (vw (r : Int) pre ++ vw (r : Int) xs).take (vat vs r).length := by
    rw [← e, List.take_left]
  split
  · next q =>
    rw [e2, List.getElem?_take_of_lt q, List.getElem?_append_right (Nat.le_refl _), Nat.sub_self]
  · next q => exact List.getElem?_eq_none (by omega)
end
theorem getLast?_map_fst {l : List (Int × Int)} {m : List Nat} (e : m.map (fun n : Nat => (n : Int)) = l.map (·.1)) : (m.getLast? = none ↔ l = []) ∧ (∀ q, l.getLast? = some q → ∃ k : Nat, m.getLast? = some k ∧ (k : Int) = q.1) ∧ m.dropLast.map (fun n : Nat => (n : Int)) = l.dropLast.map (·.1) ∧ m.length = l.length := by
  have hlen : m.length = l.length := by
    have := congrArg List.length e
    rwa [List.length_map, List.length_map] at this
  refine ⟨?_, fun q hq => ?_, ?_, hlen⟩
  · rw [List.getLast?_eq_none_iff]
    constructor
    · intro z; subst z; exact List.length_eq_zero_iff.mp hlen.symm
    · intro z; subst z; exact List.length_eq_zero_iff.mp hlen
  · have h2 : (l.map (·.1)).getLast? = some q.1 := by rw [List.getLast?_map, hq]; rfl
    rw [← e, List.getLast?_map] at h2
    obtain ⟨k, hk, e2⟩ := Option.map_eq_some_iff.mp h2
    exact ⟨k, hk, e2⟩
  · rw [List.map_dropLast, List.map_dropLast, e]
end OH
end
section
set_option Elab.async false
set_option linter.all false
set_option maxRecDepth 100000
set_option maxHeartbeats 1000000
/-! Views of a row, cut anywhere, are put together to a beginning of it, or do not fit. -/
namespace OH
open PySem PySem.Spec PyProof.Rows L2
def actOf : Crs → It
  | .start _ => .ends
  | .call _ b d n => .calls b d n
  | .back _ _ n => .gives n
  | .deep _ b d n => .calls b d n
  | .done n => .gives n
  | .fin _ => .ends
/-- to whom something comes in by a crossing, and what -/
def evOf : Crs → Option (Int × It)
  | .call _ b d n => some (b, .inn d n)
  | .back _ b n => some (b, .got n)
  | _ => none
theorem Nx.shown {F : Fc} (hF : F.Ok) {s : Rs} (hs : SOk F s) {c : Int} (hc : s.1 = some c) {x : Crs} (hx : Nx F c s.2 x) :
    OH.shown c x = [actOf x] ∧ (∀ e, evOf x = some e → e.1 ≠ c ∧ 0 ≤ e.1 ∧ e.1 < (F.R : Int) ∧ OH.shown e.1 x = [e.2]) ∧ ∀ r, r ≠ c → (∀ e, evOf x = some e → r ≠ e.1) → OH.shown r x = [] := by
  have ch := hs.ctl hc
  have st := hs.step hF hc hx
  cases x with
  | start n => exact hx.elim
  | call a b d n =>
    obtain ⟨e, hw, hl, _⟩ := hx
    subst e
    obtain ⟨b0, b1⟩ := (st.ctl (c := b) rfl).rng hF
    have nb : b ≠ a := by
      obtain ⟨w1, w2, w3, _⟩ := (hF.wi a.toNat (by have := (ch.rng hF); omega)).2.2 _ hw
      have w3' : b ≠ (a.toNat : Int) := w3
      have := (ch.rng hF).1
      omega
    refine ⟨?_, fun e he => ?_, fun r h1 h2 => ?_⟩
    · show (if a = a then _ else _) ++ (if a = b then _ else _) = _
      rw [if_pos rfl, if_neg (fun z => nb z.symm)]
      rfl
    · cases he
      refine ⟨nb, b0, b1, ?_⟩
      show (if b = a then _ else _) ++ (if b = b then _ else _) = _
      rw [if_neg nb, if_pos rfl]
      rfl
    · show (if r = a then _ else _) ++ (if r = b then _ else _) = _
      rw [if_neg h1, if_neg (h2 _ rfl)]
      rfl
  | back a b n =>
    obtain ⟨e, ⟨q, hq, hb⟩, _⟩ := hx
    subst e
    obtain ⟨b0, b1⟩ := (st.ctl (c := b) rfl).rng hF
    have nb : b ≠ a := by
      rcases ch.inv with ⟨e0, _⟩ | ⟨as, a', e0, h0, h1⟩
      · rw [e0] at hq; cases hq
      · rw [e0, List.getLast?_concat] at hq
        cases hq
        have hb' : b = a' := hb
        rw [hb']
        exact h1
    refine ⟨?_, fun e he => ?_, fun r h1 h2 => ?_⟩
    · show (if a = a then _ else _) ++ (if a = b then _ else _) = _
      rw [if_pos rfl, if_neg (fun z => nb z.symm)]
      rfl
    · cases he
      refine ⟨nb, b0, b1, ?_⟩
      show (if b = a then _ else _) ++ (if b = b then _ else _) = _
      rw [if_neg nb, if_pos rfl]
      rfl
    · show (if r = a then _ else _) ++ (if r = b then _ else _) = _
      rw [if_neg h1, if_neg (h2 _ rfl)]
      rfl
  | deep a b d n =>
    obtain ⟨e, _⟩ := hx
    subst e
    refine ⟨if_pos rfl, (fun e he => nomatch he), fun r h1 _ => if_neg h1⟩
  | done n =>
    obtain ⟨e, _⟩ := hx
    rcases ch.inv with ⟨_, e0⟩ | ⟨as, a', e0, _⟩
    · subst e0
      refine ⟨?_, (fun e he => nomatch he), fun r h1 _ => if_neg h1⟩
      rfl
    · rw [e] at e0
      have := congrArg List.length e0
      rw [List.length_append] at this
      simp at this
  | fin a =>
    have e : a = c := hx
    subst e
    refine ⟨if_pos rfl, (fun e he => nomatch he), fun r h1 _ => if_neg h1⟩
/-- what came of it -/
def Good (F : Fc) (row : List Crs) (vs : List (List It)) : JO → Prop
  | .fin J => ∃ k s', Jat F (row.take k) s' J ∧ (∀ r, r < F.R → (vw (r : Int) (row.take k)).length ≤ (vat vs r).length) ∧ 1 ≤ k ∧ k ≤ row.length ∧
      (∀ x, row[k]? = some x → ∃ c, c < F.R ∧ (vat vs c).length = (vw (c : Int) (row.take k)).length ∧ shown (c : Int) x ≠ [])
  | .bad r a => r < F.R ∧ a ≤ (vat vs r).length ∧ ∀ j, ¬ Vs F vs (row.take j)
/-- a room whose views end at what has been shown, though more comes of it -/
theorem no_more {F : Fc} {pre xs : List Crs} {x : Crs} {vs : List (List It)} {b c : Nat} (hb : b < F.R) (hc : c < F.R) (h1 : (vat vs b).length ≤ (vw (b : Int) pre).length) (h2 : shown (b : Int) x ≠ []) (h3 : (vw (c : Int) pre).length < (vat vs c).length) : ∀ j, ¬ Vs F vs ((pre ++ x :: xs).take j) := by
  intro j hv
  have e1 := congrArg List.length (hv b hb)
  have e2 := congrArg List.length (hv c hc)
  by_cases hj : j ≤ pre.length
  · rw [List.take_append_of_le_length hj] at e2
    have := (vw_le (c : Int) (List.take_prefix j pre)).length_le
    omega
  · have hp : pre ++ [x] <+: (pre ++ x :: xs).take j := by
      obtain ⟨i, rfl⟩ : ∃ i, j = pre.length + (i + 1) := ⟨j - pre.length - 1, by omega⟩
      rw [List.take_length_add_append]
      exact ⟨xs.take i, by rw [List.append_assoc]; rfl⟩
    have l1 := (vw_le (b : Int) hp).length_le
    rw [vw_app, List.length_append] at l1
    have l2 : 1 ≤ (vw (b : Int) [x]).length := by
      show 1 ≤ ((OH.shown (b : Int) x ++ []).length)
      rw [List.append_nil]
      cases h : OH.shown (b : Int) x with
      | nil => exact absurd h h2
      | cons _ _ => exact Nat.succ_le_succ (Nat.zero_le _)
    omega
theorem join_go {F : Fc} (hF : F.Ok) {vs : List (List It)} : ∀ (xs pre : List Crs) (s : Rs) (J : Jn), pre ≠ [] → SOk F s → VRr F s xs → Jat F pre s J → Cuts F (pre ++ xs) vs → (∀ r, r < F.R → (vw (r : Int) pre).length ≤ (vat vs r).length) →
    ∃ m out, Runs F vs m J (s.1.map Int.toNat) out ∧ Good F (pre ++ xs) vs out
  | [], pre, s, J, hne, hs, hv, hj, hc, hp => by
    have here : Good F (pre ++ []) vs (.fin J) := by
      refine ⟨pre.length, s, ?_, ?_, ?_, ?_, fun x hx => ?_⟩
      · rw [List.append_nil, List.take_length]; exact hj
      · rw [List.append_nil, List.take_length]; exact hp
      · cases pre with
        | nil => exact absurd rfl hne
        | cons _ _ => exact Nat.succ_le_succ (Nat.zero_le _)
      · rw [List.append_nil]; exact Nat.le_refl _
      · rw [List.append_nil, List.getElem?_eq_none (Nat.le_refl _)] at hx
        cases hx
    cases hctl : s.1 with
    | none => exact ⟨0, .fin J, .stop, here⟩
    | some c =>
      obtain ⟨c0, c1⟩ := (hs.ctl hctl).rng hF
      have hcc : c.toNat < F.R := by omega
      have nx := hj.next hc hp hcc
      have e : nextI vs J.cnt c.toNat = none := by
        rw [nx]
        split <;> rfl
      refine ⟨1, .fin J, .step (c := none) (J' := J) ?_ .stop, here⟩
      unfold jact
      rw [e]
  | x :: xs, pre, s, J, hne, hs, ⟨⟨c, hctl, hx⟩, hr⟩, hj, hc, hp => by
    obtain ⟨c0, c1⟩ := (hs.ctl hctl).rng hF
    have hcc : c.toNat < F.R := by omega
    have ce : ((c.toNat : Nat) : Int) = c := Int.toNat_of_nonneg c0
    obtain ⟨sh1, sh2, sh3⟩ := hx.shown hF hs hctl
    have nx := hj.next hc hp hcc
    rw [ce, vw_cons, sh1] at nx
    rw [hctl]
    have hrow : (pre ++ [x]) ++ xs = pre ++ x :: xs := by rw [List.append_assoc]; rfl
    have len1 : ∀ r : Int, (vw r (pre ++ [x])).length = (vw r pre).length + (OH.shown r x).length := fun r => by
      rw [vw_app, List.length_append]
      show _ + (OH.shown r x ++ []).length = _
      rw [List.append_nil]
    by_cases av : (vw c pre).length < (vat vs c.toNat).length
    · rw [if_pos av] at nx
      have nx' : nextI vs J.cnt c.toNat = some (actOf x) := nx
      have rec_ : ∀ J', jact F vs J c.toNat = .ok ((bh s x).1.map Int.toNat) J' → Jat F (pre ++ [x]) (bh s x) J' → (∀ r, r < F.R → (vw (r : Int) (pre ++ [x])).length ≤ (vat vs r).length) →
          ∃ m out, Runs F vs m J ((some c).map Int.toNat) out ∧ Good F (pre ++ x :: xs) vs out := fun J' h1 h2 h3 => by
        obtain ⟨m, out, r1, r2⟩ := join_go hF xs (pre ++ [x]) (bh s x) J' (by simp) (hs.step hF hctl hx) hr h2 (by rw [hrow]; exact hc) h3
        rw [hrow] at r2
        exact ⟨m + 1, out, .step h1 r1, r2⟩
      have lcb : c.toNat < J.cnt.length := by rw [hj.lc]; exact hcc
      -- nothing comes in
      have one : evOf x = none → (∀ r, r < F.R → cat_ (bump J.cnt c.toNat) r = (vw (r : Int) (pre ++ [x])).length) ∧ ∀ r, r < F.R → (vw (r : Int) (pre ++ [x])).length ≤ (vat vs r).length := fun he => by
        refine ⟨fun r hr' => ?_, fun r hr' => ?_⟩
        · rw [cat_bump lcb, len1]
          by_cases e : c.toNat = r
          · subst e
            rw [if_pos rfl, hj.cn _ hr', ce, sh1]
            rfl
          · rw [if_neg e, hj.cn _ hr', sh3 r (by omega) (fun e' h' => by rw [he] at h'; cases h')]
            rfl
        · rw [len1]
          by_cases e : c.toNat = r
          · subst e
            rw [ce, sh1]
            show _ + 1 ≤ _
            omega
          · rw [sh3 r (by omega) (fun e' h' => by rw [he] at h'; cases h')]
            exact hp r hr'
      -- something comes in to a room
      have two : ∀ (b : Nat) (i : It), evOf x = some ((b : Int), i) → (nextI vs (bump J.cnt c.toNat) b = some i ∧ (∀ r, r < F.R → cat_ (bump (bump J.cnt c.toNat) b) r = (vw (r : Int) (pre ++ [x])).length) ∧ ∀ r, r < F.R → (vw (r : Int) (pre ++ [x])).length ≤ (vat vs r).length) ∨
          (nextI vs (bump J.cnt c.toNat) b = none ∧ Good F (pre ++ x :: xs) vs (.bad b (cat_ (bump J.cnt c.toNat) b))) := fun b i he => by
        obtain ⟨e1, e2, e3, e4⟩ := sh2 _ he
        have e1' : (b : Int) ≠ c := e1
        have e3' : (b : Int) < (F.R : Int) := e3
        have e4' : OH.shown (b : Int) x = [i] := e4
        have hb : b < F.R := by omega
        have nb : c.toNat ≠ b := by omega
        have cb : cat_ (bump J.cnt c.toNat) b = (vw (b : Int) pre).length := by rw [cat_bump lcb, if_neg nb, hj.cn b hb]
        have nxb : nextI vs (bump J.cnt c.toNat) b = nextI vs J.cnt b := by
          unfold nextI
          rw [cb, hj.cn b hb]
        have lb := hj.next hc hp hb
        rw [vw_cons, e4'] at lb
        rw [nxb, lb]
        by_cases ab : (vw (b : Int) pre).length < (vat vs b).length
        · refine .inl ⟨by rw [if_pos ab]; rfl, fun r hr' => ?_, fun r hr' => ?_⟩
          · rw [cat_bump (by rw [len_bump, hj.lc]; exact hb), cat_bump lcb, cat_bump lcb, len1]
            by_cases z : b = r
            · subst z
              rw [if_pos rfl, if_neg nb, hj.cn _ hb, e4']
              rfl
            · rw [if_neg z]
              by_cases e : c.toNat = r
              · subst e
                rw [if_pos rfl, hj.cn _ hr', ce, sh1]
                rfl
              · rw [if_neg e, hj.cn _ hr', sh3 r (by omega) (fun e' h' => by rw [he] at h'; cases h'; intro y; exact z (by omega))]
                rfl
          · rw [len1]
            by_cases z : b = r
            · subst z
              rw [e4']
              show _ + 1 ≤ _
              omega
            · by_cases e : c.toNat = r
              · subst e
                rw [ce, sh1]
                show _ + 1 ≤ _
                omega
              · rw [sh3 r (by omega) (fun e' h' => by rw [he] at h'; cases h'; intro y; exact z (by omega))]
                exact hp r hr'
        · refine .inr ⟨by rw [if_neg ab], hb, ?_, ?_⟩
          · rw [cb]
            exact hp b hb
          · refine no_more (b := b) (c := c.toNat) hb hcc (by omega) (by rw [e4']; exact List.cons_ne_nil _ _) (by rw [ce]; exact av)
      cases x with
      | start n => exact hx.elim
      | call a b d n =>
        obtain ⟨ea, hw, hl, _⟩ := hx
        subst ea
        obtain ⟨b', rfl⟩ : ∃ b' : Nat, b = b' := ⟨b.toNat, by have := (sh2 _ rfl).2.1; have this' : 0 ≤ b := this; omega⟩
        have hla : ¬ (J.asks.length : Int) = F.dep := by rw [(getLast?_map_fst hj.as).2.2.2]; omega
        have jj : jact F vs J a.toNat = if nextI vs (bump J.cnt a.toNat) b' = some (.inn d n) then .ok (some b') ⟨bump (bump J.cnt a.toNat) b', J.asks ++ [a.toNat], J.joint ++ [.call a.toNat b' d n]⟩ else .err b' (cat_ (bump J.cnt a.toNat) b') := by
          unfold jact
          rw [nx']
          show (if ((b' : Int), d) ∈ F.ws a.toNat then _ else _) = _
          rw [if_pos hw, if_neg hla]
          rfl
        rcases two b' (.inn d n) rfl with ⟨t1, t2, t3⟩ | ⟨t1, t2⟩
        · rw [if_pos t1] at jj
          refine rec_ _ jj ⟨by rw [len_bump, len_bump, hj.lc], t2, ?_, ?_⟩ t3
          · show (J.asks ++ [a.toNat]).map _ = (s.2 ++ [(a, (b' : Int))]).map _
            rw [List.map_append, List.map_append, hj.as]
            show _ ++ [((a.toNat : Nat) : Int)] = _
            rw [ce]
            rfl
          · show J.joint ++ _ = _
            rw [hj.jo, ce]
        · rw [if_neg (by rw [t1]; exact fun z => nomatch z)] at jj
          exact ⟨1, _, .err jj, t2⟩
      | back a b n =>
        obtain ⟨ea, ⟨q, hq, hb⟩, _⟩ := hx
        subst ea
        have hb' : b = q.1 := hb
        obtain ⟨b', rfl⟩ : ∃ b' : Nat, b = b' := ⟨b.toNat, by have := (sh2 _ rfl).2.1; have this' : 0 ≤ b := this; omega⟩
        obtain ⟨g1, g2, g3, g4⟩ := getLast?_map_fst hj.as
        obtain ⟨k, hk, ek⟩ := g2 q hq
        have ekb : k = b' := by omega
        subst ekb
        have jj : jact F vs J a.toNat = if nextI vs (bump J.cnt a.toNat) k = some (.got n) then .ok (some k) ⟨bump (bump J.cnt a.toNat) k, J.asks.dropLast, J.joint ++ [.back a.toNat k n]⟩ else .err k (cat_ (bump J.cnt a.toNat) k) := by
          unfold jact
          rw [nx']
          show (match J.asks.getLast? with
            | none => _
            | some k => _) = _
          rw [hk]
          rfl
        rcases two k (.got n) rfl with ⟨t1, t2, t3⟩ | ⟨t1, t2⟩
        · rw [if_pos t1] at jj
          refine rec_ _ jj ⟨by rw [len_bump, len_bump, hj.lc], t2, ?_, ?_⟩ t3
          · show J.asks.dropLast.map _ = s.2.dropLast.map _
            exact g3
          · show J.joint ++ _ = _
            rw [hj.jo, ce]
        · rw [if_neg (by rw [t1]; exact fun z => nomatch z)] at jj
          exact ⟨1, _, .err jj, t2⟩
      | deep a b d n =>
        obtain ⟨ea, hw, hl, _⟩ := hx
        subst ea
        have hla : (J.asks.length : Int) = F.dep := by rw [(getLast?_map_fst hj.as).2.2.2]; exact hl
        obtain ⟨t2, t3⟩ := one rfl
        refine rec_ ⟨bump J.cnt a.toNat, J.asks, J.joint ++ [.deep a.toNat b d n]⟩ ?_ ⟨by rw [len_bump, hj.lc], t2, hj.as, by show J.joint ++ _ = _; rw [hj.jo, ce]⟩ t3
        unfold jact
        rw [nx']
        show (if (b, d) ∈ F.ws a.toNat then _ else _) = _
        rw [if_pos hw, if_pos hla]
        rfl
      | done n =>
        obtain ⟨ea, _⟩ := hx
        obtain ⟨t2, t3⟩ := one rfl
        refine rec_ ⟨bump J.cnt c.toNat, J.asks, J.joint ++ [.done n]⟩ ?_ ⟨by rw [len_bump, hj.lc], t2, hj.as, by show J.joint ++ _ = _; rw [hj.jo]⟩ t3
        unfold jact
        rw [nx']
        show (match J.asks.getLast? with
            | none => _
            | some k => _) = _
        rw [(getLast?_map_fst hj.as).1.mpr ea]
        rfl
      | fin a =>
        have ea : a = c := hx
        subst ea
        obtain ⟨t2, t3⟩ := one rfl
        refine rec_ ⟨bump J.cnt a.toNat, J.asks, J.joint ++ [.fin a.toNat]⟩ ?_ ⟨by rw [len_bump, hj.lc], t2, hj.as, by show J.joint ++ _ = _; rw [hj.jo, ce]⟩ t3
        unfold jact
        rw [nx']
        rfl
    · have e : nextI vs J.cnt c.toNat = none := by rw [nx, if_neg av]
      refine ⟨1, .fin J, .step (c := none) (J' := J) ?_ .stop, ?_⟩
      · unfold jact
        rw [e]
      · have tl : (pre ++ x :: xs).take pre.length = pre := List.take_left
        refine ⟨pre.length, s, by rw [tl]; exact hj, by rw [tl]; exact hp, ?_, ?_, fun y hy => ⟨c.toNat, hcc, ?_, ?_⟩⟩
        · cases pre with
          | nil => exact absurd rfl hne
          | cons _ _ => exact Nat.succ_le_succ (Nat.zero_le _)
        · rw [List.length_append]; omega
        · have := hp c.toNat hcc
          rw [ce] at this
          rw [tl, ce]
          omega
        · rw [List.getElem?_append_right (Nat.le_refl _), Nat.sub_self] at hy
          cases hy
          rw [ce, sh1]
          exact List.cons_ne_nil _ _
end OH
end
section
set_option Elab.async false
set_option linter.all false
set_option maxRecDepth 100000
set_option maxHeartbeats 1000000
/-! What is put together at the end; rows told apart by their views. -/
namespace OH
open PySem PySem.Spec PyProof.Rows L2
section
variable {F : Fc} {row : List Crs} {vs : List (List It)} {J : Jn}
theorem join_end (hc : Cuts F row vs) (h : Good F row vs (.fin J)) (he : ∀ r, r < F.R → (vat vs r).length ≤ cat_ J.cnt r) : ∃ k, 1 ≤ k ∧ k ≤ row.length ∧ J.joint = row.take k ∧ Vs F vs (row.take k) := by
  obtain ⟨k, s', hj, hp, k1, k2, _⟩ := h
  refine ⟨k, k1, k2, hj.jo, fun r hr => ?_⟩
  have h1 := hc.pre r hr
  have h2 := vw_le (r : Int) (List.take_prefix k row)
  have h3 := hp r hr
  have h4 := he r hr
  rw [hj.cn r hr] at h4
  have e1 := List.prefix_of_prefix_length_le h1 h2 h4
  exact e1.eq_of_length (Nat.le_antisymm h4 h3)
theorem join_left (h : Good F row vs (.fin J)) {r : Nat} (hr : r < F.R) (hl : cat_ J.cnt r < (vat vs r).length) : ∀ j, ¬ Vs F vs (row.take j) := by
  obtain ⟨k, s', hj, hp, k1, k2, hk⟩ := h
  rw [hj.cn r hr] at hl
  by_cases e : k < row.length
  · obtain ⟨c, c1, c2, c3⟩ := hk _ (List.getElem?_eq_getElem e)
    have q := no_more (xs := row.drop (k + 1)) c1 hr (Nat.le_of_eq c2) c3 hl
    have e2 : row.take k ++ row[k] :: row.drop (k + 1) = row := by
      rw [← List.drop_eq_getElem_cons e, List.take_append_drop]
    rw [e2] at q
    exact q
  · intro j hv
    have e1 := congrArg List.length (hv r hr)
    have e2 : row.take k = row := List.take_of_length_le (by omega)
    rw [e2] at hl
    have := (vw_le (r : Int) (List.take_prefix j row)).length_le
    omega
end
/-- the act tells the crossing -/
theorem Nx.same {F : Fc} {c : Int} {asks : List (Int × Int)} {x y : Crs} (hx : Nx F c asks x) (hy : Nx F c asks y) (e : actOf x = actOf y) : x = y := by
  cases x <;> cases y <;> first
    | exact hx.elim
    | exact hy.elim
    | (injection e with e1 e2 e3; done)
    | skip
  all_goals first
    | (cases e; done)
    | skip
  · obtain ⟨a1, _, a3, _⟩ := hx
    obtain ⟨b1, _, b3, _⟩ := hy
    injection e with e1 e2 e3
    subst a1 b1 e1 e2 e3
    rfl
  · obtain ⟨a1, _, a3, _⟩ := hx
    obtain ⟨b1, _, b3, _⟩ := hy
    omega
  · obtain ⟨a1, ⟨q, q1, q2⟩, _⟩ := hx
    obtain ⟨b1, ⟨p, p1, p2⟩, _⟩ := hy
    injection e with e1
    rw [q1] at p1
    cases p1
    subst a1 b1 e1 q2 p2
    rfl
  · obtain ⟨a1, ⟨q, q1, q2⟩, _⟩ := hx
    obtain ⟨b1, _⟩ := hy
    rw [b1] at q1
    cases q1
  · obtain ⟨a1, _, a3, _⟩ := hx
    obtain ⟨b1, _, b3, _⟩ := hy
    omega
  · obtain ⟨a1, _, a3, _⟩ := hx
    obtain ⟨b1, _, b3, _⟩ := hy
    injection e with e1 e2 e3
    subst a1 b1 e1 e2 e3
    rfl
  · obtain ⟨b1, ⟨q, q1, q2⟩, _⟩ := hy
    obtain ⟨a1, _⟩ := hx
    rw [a1] at q1
    cases q1
  · injection e with e1
    subst e1
    rfl
  · have a1 : _ = c := hx
    have b1 : _ = c := hy
    subst a1 b1
    rfl
def Near (l1 l2 : List It) : Prop := l1 <+: l2 ∨ l2 <+: l1
theorem near_go {F : Fc} (hF : F.Ok) : ∀ (xs ys : List Crs) (s : Rs), SOk F s → VRr F s xs → VRr F s ys → (∀ r : Nat, r < F.R → Near (vw (r : Int) xs) (vw (r : Int) ys)) → xs <+: ys ∨ ys <+: xs
  | [], ys, _, _, _, _, _ => .inl (List.nil_prefix)
  | x :: xs, [], _, _, _, _, _ => .inr (List.nil_prefix)
  | x :: xs, y :: ys, s, hs, ⟨⟨c, hc, hx⟩, hrx⟩, ⟨⟨c', hc', hy⟩, hry⟩, hn => by
    rw [hc] at hc'
    cases hc'
    obtain ⟨c0, c1⟩ := (hs.ctl hc).rng hF
    have ce : ((c.toNat : Nat) : Int) = c := Int.toNat_of_nonneg c0
    obtain ⟨sx, _, _⟩ := hx.shown hF hs hc
    obtain ⟨sy, _, _⟩ := hy.shown hF hs hc
    have h := hn c.toNat (by omega)
    rw [ce, vw_cons, vw_cons, sx, sy] at h
    have ea : actOf x = actOf y := by
      rcases h with h | h
      · exact (List.cons_prefix_cons.mp h).1
      · exact (List.cons_prefix_cons.mp h).1.symm
    have exy := hx.same hy ea
    subst exy
    have ih := near_go hF xs ys (bh s x) (hs.step hF hc hx) hrx hry (fun r hr => by
      have h := hn r hr
      rw [vw_cons, vw_cons] at h
      rcases h with h | h
      · exact .inl ((List.prefix_append_right_inj _).mp h)
      · exact .inr ((List.prefix_append_right_inj _).mp h))
    rcases ih with h | h
    · exact .inl (List.cons_prefix_cons.mpr ⟨rfl, h⟩)
    · exact .inr (List.cons_prefix_cons.mpr ⟨rfl, h⟩)
theorem near_iff {F : Fc} (hF : F.Ok) {a b : List Crs} (ha : VR F a) (hb : VR F b) (h0 : a[0]? = b[0]?) : (∀ r : Nat, r < F.R → Near (vw (r : Int) a) (vw (r : Int) b)) ↔ (a <+: b ∨ b <+: a) := by
  obtain ⟨n, xs, rfl, _, hx⟩ := ha
  obtain ⟨m, ys, rfl, _, hy⟩ := hb
  have e : n = m := by
    have h0' : some (Crs.start n) = some (Crs.start m) := h0
    injection h0' with h0'
    injection h0'
  subst e
  constructor
  · intro h
    have ih := near_go hF xs ys (some 0, []) (SOk.init hF) hx hy (fun r hr => by
      have h := h r hr
      rw [vw_cons, vw_cons] at h
      rcases h with h | h
      · exact .inl ((List.prefix_append_right_inj _).mp h)
      · exact .inr ((List.prefix_append_right_inj _).mp h))
    rcases ih with h | h
    · exact .inl (List.cons_prefix_cons.mpr ⟨rfl, h⟩)
    · exact .inr (List.cons_prefix_cons.mpr ⟨rfl, h⟩)
  · rintro (h | h) r _
    · exact .inl (vw_le _ h)
    · exact .inr (vw_le _ h)
/-- the row is told by its views -/
theorem Vs.one {F : Fc} (hF : F.Ok) {row : List Crs} (h : VR F row) {vs : List (List It)} {i j : Nat} (hi : i ≤ row.length) (hj : j ≤ row.length) (vi : Vs F vs (row.take i)) (vj : Vs F vs (row.take j)) : i = j := by
  have main : ∀ i j, i < j → j ≤ row.length → Vs F vs (row.take i) → Vs F vs (row.take j) → False := fun i j lt hj vi vj => by
    obtain ⟨n, xs, rfl, hn, hr⟩ := h
    cases i with
    | zero =>
      have e1 := vi 0 (by have := hF.m1; omega)
      have e2 := vj 0 (by have := hF.m1; omega)
      rw [List.take_zero] at e1
      obtain ⟨j', rfl⟩ : ∃ j', j = j' + 1 := ⟨j - 1, by omega⟩
      rw [List.take_succ_cons, vw_cons, e1] at e2
      cases e2
    | succ i =>
      have hi : i < xs.length := by simp at hj; omega
      have hv := hr.take (i + 1)
      have ex : xs.take (i + 1) = xs.take i ++ [xs[i]] := by rw [List.take_add_one, List.getElem?_eq_getElem hi]; rfl
      have key : ∀ (ys : List Crs) (s : Rs) (x : Crs), SOk F s → VRr F s (ys ++ [x]) → ∃ c : Nat, c < F.R ∧ shown (c : Int) x ≠ [] := fun ys => by
        induction ys with
        | nil =>
          rintro s x hs ⟨⟨c, hc, hx⟩, _⟩
          obtain ⟨c0, c1⟩ := (hs.ctl hc).rng hF
          refine ⟨c.toNat, by omega, ?_⟩
          rw [Int.toNat_of_nonneg c0, (hx.shown hF hs hc).1]
          exact List.cons_ne_nil _ _
        | cons y ys ih =>
          rintro s x hs ⟨⟨c, hc, hy⟩, hr⟩
          exact ih _ _ (hs.step hF hc hy) hr
      rw [ex] at hv
      obtain ⟨c, c1, c2⟩ := key _ _ _ (SOk.init hF) hv
      have e1 := congrArg List.length (vi c c1)
      have e2 := congrArg List.length (vj c c1)
      have hp : (Crs.start n :: xs).take (i + 1) ++ [xs[i]] <+: (Crs.start n :: xs).take j := by
        rw [List.take_succ_cons, List.cons_append, ← ex]
        obtain ⟨j', rfl⟩ : ∃ j', j = j' + 1 := ⟨j - 1, by omega⟩
        rw [List.take_succ_cons]
        refine List.cons_prefix_cons.mpr ⟨rfl, ?_⟩
        exact List.take_prefix_take_left (by omega)
      have l1 := (vw_le (c : Int) hp).length_le
      rw [vw_app, List.length_append] at l1
      have l2 : 1 ≤ (vw (c : Int) [xs[i]]).length := by
        show 1 ≤ ((shown (c : Int) xs[i] ++ []).length)
        rw [List.append_nil]
        cases h : shown (c : Int) xs[i] with
        | nil => exact absurd h c2
        | cons _ _ => exact Nat.succ_le_succ (Nat.zero_le _)
      omega
  rcases Nat.lt_trichotomy i j with h1 | h1 | h1
  · exact (main i j h1 hj vi vj).elim
  · exact h1
  · exact (main j i h1 hi vj vi).elim
end OH
end
section
set_option Elab.async false
set_option linter.all false
set_option maxRecDepth 100000
set_option maxHeartbeats 4000000
/-! RowWalk. -/
namespace OH
open PySem PySem.Spec PyProof.Rows L2
theorem _root_.L2.SqT.sm {K : PySem.W.Frag} {H H' : Hp} {a : Addr} {xs : List V} (h : SqT K H a xs) (e : Same H H') : SqT K H' a xs :=
  h.elim (fun h => .inl (h.elim (fun h => .inl (e _ _ h)) fun ⟨o, h⟩ => .inr ⟨o, e _ _ h⟩)) fun h => .inr h
/-- tuples at addresses, own ones or the top's, told by f -/
inductive AllQ {α : Type} (K : PySem.W.Frag) (H : Hp) (f : α → List V) : List Addr → List α → Prop where
  | nil : AllQ K H f [] []
  | cons {p : Addr} {x : α} {ps : List Addr} {xs : List α} : SqT K H p (f x) → AllQ K H f ps xs → AllQ K H f (p :: ps) (x :: xs)
section
variable {α : Type} {K : PySem.W.Frag} {H H' : Hp} {f : α → List V} {ps : List Addr} {xs : List α}
theorem AllQ.same (h : AllQ K H f ps xs) (s : Same H H') : AllQ K H' f ps xs := by
  induction h with
  | nil => exact .nil
  | cons a _ ih => exact .cons (a.sm s) ih
theorem AllQ.len (h : AllQ K H f ps xs) : ps.length = xs.length := by
  induction h with
  | nil => rfl
  | cons _ _ ih => exact congrArg (· + 1) ih
theorem AllQ.get (h : AllQ K H f ps xs) : ∀ {i : Nat} {p : Addr}, ps[i]? = some p → ∃ x, xs[i]? = some x ∧ SqT K H p (f x) := by
  induction h with
  | nil => intro i p e; cases i <;> cases e
  | cons a _ ih =>
    intro i p e
    cases i with
    | zero => exact ⟨_, rfl, by cases e; exact a⟩
    | succ i => exact ih e
end
theorem atI_end {α : Type} {xs : List α} {v : α} (h : xs[xs.length - 1]? = some v) : atI xs (-1) = some v := by
  rcases List.eq_nil_or_concat xs with rfl | ⟨ys, y, rfl⟩
  · cases h
  · rw [List.concat_eq_append] at h ⊢
    rw [List.length_append, List.getElem?_append_right (by show ys.length ≤ ys.length + 1 - 1; omega)] at h
    have e : ys.length + [y].length - 1 - ys.length = 0 := by show ys.length + 1 - 1 - ys.length = 0; omega
    rw [e] at h
    cases h
    exact atI_last ys _
def optV : Option Int → V
  | none => .non
  | some i => .int i
structure Wk where
  ins : Option Int
  asks : List (Int × Int)
  over : Bool
abbrev Fd := Int × Int × Option Int
def fdV (f : Fd) : List V := [.int f.1, .int f.2.1, optV f.2.2]
def numF : Fd := (0, 9999, none)
def dorF : Fd := (0, 5, none)
/-- what the fields of a crossing of a kind must be -/
def fld (w : Wk) (x : Str) : Option (List Fd) :=
  if w.over = true then none else
  match w.ins with
  | none => if x = "start" then some [numF] else none
  | some r =>
    if (x = "call" ∧ w.asks.length < 60) ∨ (x = "deep" ∧ 0 < w.asks.length) then some [(r, r, none), (0, 5, some r), dorF, numF]
    else if x = "back" ∧ 0 < w.asks.length then some [(r, r, none), ((w.asks.getLast?.getD (0, 0)).1, (w.asks.getLast?.getD (0, 0)).1, none), numF]
    else if x = "done" ∧ w.asks.length = 0 then some [numF]
    else if x = "end" then some [(r, r, none)] else none
def wkf (w : Wk) (al : Addr) : List (Str × V) := [("inside", optV w.ins), ("asks", .ref al), ("over", .bl w.over)]
structure WkAt (CW : Addr) (H : Hp) (p d al : Addr) (w : Wk) : Prop where
  hp : H p = some (.ins CW d (wkf w al))
  ha : ∃ ps : List Addr, H al = some (.lst (ps.map V.ref)) ∧ AllAt H pairV ps w.asks
structure TxW (K : PySem.W.Frag) (CW : Addr) : Prop where
  cl : Cls K CW
  nI : NoAttr K CW "inside"
  nA : NoAttr K CW "asks"
  nO : NoAttr K CW "over"
structure TxC (K : PySem.W.Frag) (mg : Str → Option Value) (aN aD : Addr) : Prop where
  gN : mg "NUMBER" = some (.ref aN)
  tN : ∀ H, SqT K H aN (fdV numF)
  gD : mg "DOOR" = some (.ref aD)
  tD : ∀ H, SqT K H aD (fdV dorF)
  gO : ∃ t, mg "MOST_OPEN" = some (.int 60 t)
  gR : ∃ t, mg "MOST_ROOMS" = some (.int 6 t)
  nLen : mg "len" = none
def spKInit (CW : Addr) : Sp := fun vs H Q _ => ∃ (p d : Addr), vs = [.ref p] ∧ H p = some (.ins CW d []) ∧ ∀ al H', H al = none → al ≠ p → WkAt CW H' p d al ⟨none, [], false⟩ → Kept [p] H H' → Q .non H'
def spFields (K : PySem.W.Frag) (CW : Addr) : Sp := fun vs H Q _ => ∃ (p d al : Addr) (w : Wk) (x : Str), vs = [.ref p, .str x] ∧ WkAt CW H p d al w ∧ w.asks.length ≤ 1000000 ∧
  (fld w x = none → ∀ H', Same H H' → Q .non H') ∧ ∀ fs, fld w x = some fs → ∀ l ps H', Same H H' → H l = none → H' l = some (.lst (ps.map V.ref)) → AllQ K H' fdV ps fs → Q (.ref l) H'
section
variable {P : Program} {w : World} {K : PySem.W.Frag} {mg : Str → Option Value} {base : Heap} {CW aN aD : Addr}
theorem sc_RowWalk___init__ : FnScope ["self"] ["self"] (defScope s_RowWalk___init__) := ⟨rfl, rfl, rfl, by decide +kernel, rfl, by decide +kernel, by decide +kernel⟩
theorem ok_RowWalk___init__ {f : Addr} {fd : FuncData} (F : Fun K "__init__" "RowWalk.__init__" s_RowWalk___init__ f fd) (T : TxW K CW) : FnOk P w K mg base CX0 1 f fd ["self"] (spKInit CW) := by
  refine F.ok sc_RowWalk___init__ (fun vs H Q E h => ?_) (fun cdv A outer s H vs Q E hr h => ?_)
  · obtain ⟨p, d, rfl, _⟩ := h
    rfl
  · obtain ⟨p, d, rfl, hp, k⟩ := h
    refine ⟨_, pss_cons (ps_fld (pv 0) pe_non rfl)
      (pss_cons (ps_fld (pv 0) (pe_lst pa_nil) rfl)
      (pss_one (ps_fld (pv 0) pe_bl rfl))), ?_⟩
    refine ⟨_, rfl, p, CW, d, _, rfl, hp, T.cl, T.nI, (by show 0 < 1000; decide), ?_⟩
    refine ⟨(by show 0 ≤ sizeLine; decide), fun al nal => ?_⟩
    have nalp : al ≠ p := (ne_of_none upd_same nal).symm
    have nalH : H al = none := by
      rw [upd_ne nalp] at nal
      exact nal
    refine ⟨_, rfl, p, CW, d, _, rfl, (upd_ne nalp.symm).trans upd_same, T.cl, T.nA, (by show 1 < 1000; decide), ?_⟩
    refine ⟨_, rfl, p, CW, d, _, rfl, upd_same, T.cl, T.nO, (by show 2 < 1000; decide), ?_⟩
    refine k al _ nalH nalp ⟨by rw [upd_same]; rfl, [], ?_, .nil⟩ ?_
    · rw [upd_ne nalp, upd_ne nalp]
      exact upd_same
    · exact (((Kept.refl.upd (List.mem_singleton.mpr rfl)).new nal).upd (List.mem_singleton.mpr rfl)).upd (List.mem_singleton.mpr rfl)
abbrev nFields : List Str := ["self", "word", "own", "asked", "asker"]
theorem sc_RowWalk_fields : FnScope nFields ["self", "word"] (defScope s_RowWalk_fields) := ⟨rfl, rfl, rfl, by decide +kernel, rfl, by decide +kernel, by decide +kernel⟩
theorem ok_RowWalk_fields {f : Addr} {fd : FuncData} (F : Fun K "fields" "RowWalk.fields" s_RowWalk_fields f fd) (T : TxW K CW) (G : TxC K mg aN aD) : FnOk P w K mg base CX0 1 f fd ["self", "word"] (spFields K CW) := by
  refine F.ok sc_RowWalk_fields (fun vs H Q E h => ?_) (fun cdv A outer s H vs Q E hr h => ?_)
  · obtain ⟨p, d, al, w, x, rfl, _⟩ := h
    rfl
  · obtain ⟨p, d, al, w, x, rfl, W, hl, k1, k2⟩ := h
    have nd := sc_RowWalk_fields.nd
    obtain ⟨tO, gO⟩ := G.gO
    obtain ⟨tR, gR⟩ := G.gR
    refine ⟨_, pss_cons (ps_if (pt_val (pe_fld (pv 0) rfl)) (pss_one (ps_ret pe_non)) pss_nil)
      (pss_cons (ps_if (pt_cmpR op_isN (pe_fld (pv 0) rfl) pe_non (nomark _)) (pss_one (ps_ret (pe_ifExp (pt_cmpR op_eq (pv 1) pe_str (nomark _)) (pe_lst (pa_cons (pe_glob (v := .ref aN) rfl G.gN rfl) pa_nil)) pe_non))) pss_nil)
      (pss_cons (ps_set (i := 2) nd rfl (Or.inl rfl) (pe_tup (pa_cons (pe_fld (pv 0) rfl) (pa_cons (pe_fld (pv 0) rfl) (pa_cons pe_non pa_nil)))))
      (pss_cons (ps_set (i := 3) nd rfl (Or.inl rfl) (pe_tup (pa_cons pe_int (pa_cons (pe_op op_sub (pe_glob (v := .int 6) rfl gR ⟨tR, rfl⟩) pe_int) (pa_cons (pe_fld (pv 0) rfl) pa_nil)))))
      (pss_cons (ps_if (PW.pt (pw_or (PW.pt (pw_and (pt_cmpR op_eq (pv 1) pe_str (nomark _)) (pw_and1 (pt_cmpR op_lt (pe_callB call_len_seq (by rfl) G.nLen PySem.boot_len (pa_cons (pe_fld (pv 0) rfl) pa_nil)) (pe_glob (v := .int 60) rfl gO ⟨tO, rfl⟩) (nomark _))))) (pw_or1 (PW.pt (pw_and (pt_cmpR op_eq (pv 1) pe_str (nomark _)) (pw_and1 (pt_cmpR op_gt (pe_callB call_len_seq (by rfl) G.nLen PySem.boot_len (pa_cons (pe_fld (pv 0) rfl) pa_nil)) pe_int (nomark _)))))))) (pss_one (ps_ret (pe_lst (pa_cons (pv 2) (pa_cons (pv 3) (pa_cons (pe_glob (v := .ref aD) rfl G.gD rfl) (pa_cons (pe_glob (v := .ref aN) rfl G.gN rfl) pa_nil))))))) pss_nil)
      (pss_cons (ps_if (PW.pt (pw_and (pt_cmpR op_eq (pv 1) pe_str (nomark _)) (pw_and1 (pt_cmpR op_gt (pe_callB call_len_seq (by rfl) G.nLen PySem.boot_len (pa_cons (pe_fld (pv 0) rfl) pa_nil)) pe_int (nomark _))))) (pss_cons (ps_set (i := 4) nd rfl (Or.inl rfl) (pe_ix ix_tup (pe_ix ix_list (pe_fld (pv 0) rfl) (pe_un un_neg pe_int) (fun _ _ => rfl)) pe_int (fun _ _ => rfl)))
      (pss_one (ps_ret (pe_lst (pa_cons (pv 2) (pa_cons (pe_tup (pa_cons (pv 4) (pa_cons (pv 4) (pa_cons pe_non pa_nil)))) (pa_cons (pe_glob (v := .ref aN) rfl G.gN rfl) pa_nil))))))) pss_nil)
      (pss_cons (ps_if (PW.pt (pw_and (pt_cmpR op_eq (pv 1) pe_str (nomark _)) (pw_and1 (pt_cmpR op_eq (pe_callB call_len_seq (by rfl) G.nLen PySem.boot_len (pa_cons (pe_fld (pv 0) rfl) pa_nil)) pe_int (nomark _))))) (pss_one (ps_ret (pe_lst (pa_cons (pe_glob (v := .ref aN) rfl G.gN rfl) pa_nil)))) pss_nil)
      (pss_one (ps_ret (pe_ifExp (pt_cmpR op_eq (pv 1) pe_str (nomark _)) (pe_lst (pa_cons (pv 2) pa_nil)) pe_non))))))))), ?_⟩
    obtain ⟨aps, ha, ha2⟩ := W.ha
    have la := ha2.len
    have fI : ∀ {H' : Hp}, Same H H' → H' p = some (.ins CW d (wkf w al)) := fun s => s _ _ W.hp
    refine ⟨_, rfl, p, CW, d, _, _, rfl, W.hp, T.cl, T.nO, rfl, _, rfl, ?_⟩
    unfold fld at k1 k2
    cases ho : w.over with
    | true =>
      rw [ho, if_pos rfl] at k1
      exact iteT (k1 rfl _ (Same.refl H))
    | false =>
      rw [ho, if_neg Bool.false_ne_true] at k1 k2
      refine iteF ?_
      refine ⟨_, rfl, p, CW, d, _, _, rfl, W.hp, T.cl, T.nI, rfl, rfl, _, rfl, ?_⟩
      cases hi : w.ins with
      | none =>
        rw [hi] at k1 k2
        refine iteT ?_
        refine ⟨_, rfl, rfl, _, rfl, ?_⟩
        refine ite2 (fun q => ?_) (fun q => ?_)
        · have e : x = "start" := by simpa using q
          refine ⟨(by show 1 ≤ sizeLine; decide), fun l nl => ?_⟩
          exact k2 [numF] (if_pos e) l [aN] _ (sadd (Same.refl H) nl) nl upd_same (.cons (G.tN _) .nil)
        · have e : ¬ x = "start" := by simpa using q
          exact k1 (if_neg e) _ (Same.refl H)
      | some r =>
        rw [hi] at k1 k2
        dsimp only at k1 k2
        refine iteF ?_
        have eI : optV w.ins = .int r := by rw [hi]; rfl
        have fl : (wkf w al).lookup ("inside" : Str) = some (.int r) := by rw [← eI]; rfl
        -- own
        refine ⟨_, rfl, p, CW, d, _, _, rfl, W.hp, T.cl, T.nI, fl, _, rfl, p, CW, d, _, _, rfl, W.hp, T.cl, T.nI, fl, (by show 3 ≤ sizeLine; decide), fun o1 n1 => ?_⟩
        have s1 := sadd (o := .tup [.int r, .int r, .non]) (Same.refl H) n1
        have h1 : upd H o1 (.tup [.int r, .int r, .non]) o1 = some (.tup (fdV (r, r, none))) := upd_same
        generalize upd H o1 (.tup [.int r, .int r, .non]) = H1 at s1 h1 ⊢
        -- asked
        refine ⟨_, _, rfl, rfl, _, rfl, p, CW, d, _, _, rfl, fI s1, T.cl, T.nI, fl, (by show 3 ≤ sizeLine; decide), fun o2 n2 => ?_⟩
        have s2 := s1.trans (sadd (o := .tup [.int 0, .int (6 - 1), .int r]) (Same.refl H1) n2)
        have s12 := sadd (o := .tup [.int 0, .int (6 - 1), .int r]) (Same.refl H1) n2
        have h2 : upd H1 o2 (.tup [.int 0, .int (6 - 1), .int r]) o2 = some (.tup (fdV (0, 5, some r))) := upd_same
        have h1' := s12 _ _ h1
        generalize upd H1 o2 (.tup [.int 0, .int (6 - 1), .int r]) = H2 at s2 h2 h1' ⊢
        have hal := s2 _ _ ha
        have hll : (aps.map V.ref).length = w.asks.length := by rw [List.length_map, la]
        -- so many asks are open
        refine ⟨_, rfl, rfl, _, rfl, ?_⟩
        refine ite2 (fun qc => ?_) (fun qc => ?_)
        · have xc : x = "call" := by simpa using qc
          subst xc
          refine ⟨_, rfl, p, CW, d, _, _, rfl, fI s2, T.cl, T.nA, rfl, al, _, rfl, .inl (SqL.of hal), _, _, rfl, rfl, _, rfl, ?_⟩
          refine ite2 (fun ql => ?_) (fun ql => ?_)
          · have l60 : w.asks.length < 60 := by
              have : ((aps.map V.ref).length : Int) < 60 := by simpa using ql
              rw [hll] at this
              omega
            refine iteT ?_
            refine ⟨_, rfl, _, rfl, (by show 4 ≤ sizeLine; decide), fun l nl => ?_⟩
            have s3 := sadd (o := .lst [.ref o1, .ref o2, .ref aD, .ref aN]) (Same.refl H2) nl
            exact k2 _ (if_pos (.inl ⟨rfl, l60⟩)) l [o1, o2, aD, aN] _ (s2.trans s3) (s2.free nl) upd_same (.cons (SqT.of (s3 _ _ h1')) (.cons (SqT.of (s3 _ _ h2)) (.cons (G.tD _) (.cons (G.tN _) .nil))))
          · have l60 : ¬ w.asks.length < 60 := by
              have : ¬ ((aps.map V.ref).length : Int) < 60 := by simpa using ql
              rw [hll] at this
              omega
            refine ⟨_, rfl, rfl, _, rfl, iteF ?_⟩
            refine iteF ?_
            refine ⟨_, rfl, rfl, _, rfl, iteF ?_⟩
            refine ⟨_, rfl, rfl, _, rfl, iteF ?_⟩
            refine ⟨_, rfl, rfl, _, rfl, iteF ?_⟩
            exact k1 (by rw [if_neg (fun z => z.elim (fun z => l60 z.2) (fun z => absurd z.1 (by decide))), if_neg (fun z => absurd z.1 (by decide)), if_neg (fun z => absurd z.1 (by decide)), if_neg (by decide)]) _ s2
        · have xc : ¬ x = "call" := by simpa using qc
          refine iteF ?_
          refine ⟨_, rfl, rfl, _, rfl, ?_⟩
          refine ite2 (fun qd => ?_) (fun qd => ?_)
          · have xd : x = "deep" := by simpa using qd
            subst xd
            refine ⟨_, rfl, p, CW, d, _, _, rfl, fI s2, T.cl, T.nA, rfl, al, _, rfl, .inl (SqL.of hal), _, _, rfl, rfl, _, rfl, ?_⟩
            refine ite2 (fun ql => ?_) (fun ql => ?_)
            · have l0 : 0 < w.asks.length := by
                have : (0 : Int) < ((aps.map V.ref).length : Int) := by simpa using ql
                rw [hll] at this
                omega
              refine ⟨_, rfl, _, rfl, (by show 4 ≤ sizeLine; decide), fun l nl => ?_⟩
              have s3 := sadd (o := .lst [.ref o1, .ref o2, .ref aD, .ref aN]) (Same.refl H2) nl
              exact k2 _ (if_pos (.inr ⟨rfl, l0⟩)) l [o1, o2, aD, aN] _ (s2.trans s3) (s2.free nl) upd_same (.cons (SqT.of (s3 _ _ h1')) (.cons (SqT.of (s3 _ _ h2)) (.cons (G.tD _) (.cons (G.tN _) .nil))))
            · have l0 : ¬ 0 < w.asks.length := by
                have : ¬ (0 : Int) < ((aps.map V.ref).length : Int) := by simpa using ql
                rw [hll] at this
                omega
              refine ⟨_, rfl, rfl, _, rfl, iteF ?_⟩
              refine ⟨_, rfl, rfl, _, rfl, iteF ?_⟩
              refine ⟨_, rfl, rfl, _, rfl, iteF ?_⟩
              exact k1 (by rw [if_neg (fun z => z.elim (fun z => absurd z.1 (by decide)) (fun z => l0 z.2)), if_neg (fun z => absurd z.1 (by decide)), if_neg (fun z => absurd z.1 (by decide)), if_neg (by decide)]) _ s2
          · have xd : ¬ x = "deep" := by simpa using qd
            have nf : ¬ ((x = "call" ∧ w.asks.length < 60) ∨ (x = "deep" ∧ 0 < w.asks.length)) := fun z => z.elim (fun z => xc z.1) (fun z => xd z.1)
            simp only [if_neg nf] at k1 k2
            refine iteF ?_
            refine ⟨_, rfl, rfl, _, rfl, ?_⟩
            refine ite2 (fun qb => ?_) (fun qb => ?_)
            · have xb : x = "back" := by simpa using qb
              subst xb
              refine ⟨_, rfl, p, CW, d, _, _, rfl, fI s2, T.cl, T.nA, rfl, al, _, rfl, .inl (SqL.of hal), _, _, rfl, rfl, _, rfl, ?_⟩
              refine ite2 (fun ql => ?_) (fun ql => ?_)
              · have l0 : 0 < w.asks.length := by
                  have : (0 : Int) < ((aps.map V.ref).length : Int) := by simpa using ql
                  rw [hll] at this
                  omega
                obtain ⟨q, hq⟩ : ∃ q, w.asks.getLast? = some q := by
                  cases e : w.asks.getLast? with
                  | none => rw [List.getLast?_eq_none_iff] at e; rw [e] at l0; exact absurd l0 (by decide)
                  | some q => exact ⟨q, rfl⟩
                rw [List.getLast?_eq_getElem?] at hq
                obtain ⟨lp, hlp, hlp2⟩ := ha2.get hq
                have at1 : atI (aps.map V.ref) (-1) = some (.ref lp) := atI_end (by rw [List.getElem?_map, List.length_map, la, hlp]; rfl)
                have eg : w.asks.getLast?.getD (0, 0) = q := by rw [List.getLast?_eq_getElem?, hq]; rfl
                rw [eg] at k2
                refine ⟨_, rfl, p, CW, d, _, _, rfl, fI s2, T.cl, T.nA, rfl, _, rfl, al, _, -1, _, rfl, rfl, SqL.of hal, at1, lp, _, 0, _, rfl, rfl, SqT.of (s2 _ _ hlp2), rfl, ?_⟩
                refine ⟨_, rfl, _, rfl, _, rfl, (by show 3 ≤ sizeLine; decide), fun o3 n3 => ⟨(by show 3 ≤ sizeLine; decide), fun l nl => ?_⟩⟩
                have s3 := sadd (o := .tup [.int q.1, .int q.1, .non]) (Same.refl H2) n3
                have h3 : upd H2 o3 (.tup [.int q.1, .int q.1, .non]) o3 = some (.tup (fdV (q.1, q.1, none))) := upd_same
                have nl2 : H2 l = none := s3.free nl
                have s4 := sadd (o := .lst [.ref o1, .ref o3, .ref aN]) s3 nl
                have h34 : upd (upd H2 o3 (.tup [.int q.1, .int q.1, .non])) l (.lst [.ref o1, .ref o3, .ref aN]) o3 = some (.tup (fdV (q.1, q.1, none))) := (upd_ne (ne_of_none h3 nl)).trans h3
                exact k2 _ (if_pos ⟨rfl, l0⟩) l [o1, o3, aN] _ (s2.trans s4) (s2.free nl2) upd_same (.cons (SqT.of (s4 _ _ h1')) (.cons (SqT.of h34) (.cons (G.tN _) .nil)))
              · have l0 : ¬ 0 < w.asks.length := by
                  have : ¬ (0 : Int) < ((aps.map V.ref).length : Int) := by simpa using ql
                  rw [hll] at this
                  omega
                refine ⟨_, rfl, rfl, _, rfl, iteF ?_⟩
                refine ⟨_, rfl, rfl, _, rfl, iteF ?_⟩
                exact k1 (by rw [if_neg (fun z => l0 z.2), if_neg (fun z => absurd z.1 (by decide)), if_neg (by decide)]) _ s2
            · have xb : ¬ x = "back" := by simpa using qb
              have nb : ¬ (x = "back" ∧ 0 < w.asks.length) := fun z => xb z.1
              simp only [if_neg nb] at k1 k2
              refine ⟨_, rfl, rfl, _, rfl, ?_⟩
              refine ite2 (fun qe => ?_) (fun qe => ?_)
              · have xe : x = "done" := by simpa using qe
                subst xe
                refine ⟨_, rfl, p, CW, d, _, _, rfl, fI s2, T.cl, T.nA, rfl, al, _, rfl, .inl (SqL.of hal), rfl, _, rfl, ?_⟩
                refine ite2 (fun ql => ?_) (fun ql => ?_)
                · have l0 : w.asks.length = 0 := by
                    have : ((aps.map V.ref).length : Int) = 0 := by simpa using ql
                    rw [hll] at this
                    omega
                  refine ⟨(by show 1 ≤ sizeLine; decide), fun l nl => ?_⟩
                  have s3 := sadd (o := .lst [.ref aN]) (Same.refl H2) nl
                  exact k2 _ (if_pos ⟨rfl, l0⟩) l [aN] _ (s2.trans s3) (s2.free nl) upd_same (.cons (G.tN _) .nil)
                · have l0 : ¬ w.asks.length = 0 := by
                    have : ¬ ((aps.map V.ref).length : Int) = 0 := by simpa using ql
                    rw [hll] at this
                    omega
                  refine ⟨_, rfl, rfl, _, rfl, iteF ?_⟩
                  exact k1 (by rw [if_neg (fun z => l0 z.2), if_neg (by decide)]) _ s2
              · have xe : ¬ x = "done" := by simpa using qe
                have ne : ¬ (x = "done" ∧ w.asks.length = 0) := fun z => xe z.1
                simp only [if_neg ne] at k1 k2
                refine ⟨_, rfl, rfl, _, rfl, ?_⟩
                refine ite2 (fun qz => ?_) (fun qz => ?_)
                · have xz : x = "end" := by simpa using qz
                  refine ⟨_, rfl, (by show 1 ≤ sizeLine; decide), fun l nl => ?_⟩
                  have s3 := sadd (o := .lst [.ref o1]) (Same.refl H2) nl
                  exact k2 _ (if_pos xz) l [o1] _ (s2.trans s3) (s2.free nl) upd_same (.cons (SqT.of (s3 _ _ h1')) .nil)
                · have xz : ¬ x = "end" := by simpa using qz
                  exact k1 (if_neg xz) _ s2
end
end OH
end
section
set_option Elab.async false
set_option linter.all false
set_option maxRecDepth 100000
set_option maxHeartbeats 4000000
/-! RowWalk.can_follow. -/
namespace OH
open PySem PySem.Spec PyProof.Rows L2
/-- a whole number or a truth value compared with a truth value by `is` -/
theorem op_isB {X : Cx} : OpR X (compareOp .Is) (fun x y H Q => ∃ b : Bool, y = .bl b ∧ (((∃ i, x = .int i) ∧ Q (.bl false) H) ∨ ∃ c : Bool, x = .bl c ∧ Q (.bl (decide (c = b))) H)) := by
  intro pins s σ H x y v u Q I rx ry h
  obtain ⟨b, rfl, h⟩ := h
  rcases h with ⟨⟨i, rfl⟩, q⟩ | ⟨c, rfl, q⟩
  · obtain ⟨t, rfl⟩ := rx
    cases (show u = Value.bool b from ry)
    exact wpAny_is_other rfl (fun z => nomatch z) ⟨.bl false, H, I, rfl, q⟩
  · exact op_isBl pins s σ H _ _ v u Q I rx ry ⟨c, b, rfl, rfl, q⟩
def okF (f : Fd) (i : Int) : Bool := decide (f.1 ≤ i) && decide (i ≤ f.2.1) && !decide (f.2.2 = some i)
def canF (w : Wk) (x : Str) (is : List Int) : Bool :=
  match fld w x with
  | none => false
  | some fs => decide (is.length = fs.length) && (fs.zip is).all fun q => okF q.1 q.2
def spCan (CW : Addr) : Sp := fun vs H Q _ => ∃ (p d al c : Addr) (w : Wk) (x : Str) (is : List Int), vs = [.ref p, .ref c] ∧ WkAt CW H p d al w ∧ w.asks.length ≤ 1000000 ∧ H c = some (.tup (.str x :: is.map V.int)) ∧ is.length ≤ 1000 ∧ ∀ H', Same H H' → Q (.bl (canF w x is)) H'
section
variable {P : Program} {w : World} {K : PySem.W.Frag} {mg : Str → Option Value} {base : Heap} {CW aN aD : Addr}
abbrev nCan : List Str := ["self", "crossing", "told", "at", "low", "high", "other", "item"]
theorem sc_RowWalk_can_follow : FnScope nCan ["self", "crossing"] (defScope s_RowWalk_can_follow) := ⟨rfl, rfl, rfl, by decide +kernel, rfl, by decide +kernel, by decide +kernel⟩
theorem ok_RowWalk_can_follow {f : Addr} {fd : FuncData} (F : Fun K "can_follow" "RowWalk.can_follow" s_RowWalk_can_follow f fd) (T : Txt K mg) (TW : TxW K CW) (nEnum : mg "enumerate" = none)
    (DF : MetF P w K mg base CX0 1 CW "fields" ["self", "word"] (spFields K CW)) : FnOk P w K mg base CX0 2 f fd ["self", "crossing"] (spCan CW) := by
  refine F.ok sc_RowWalk_can_follow (fun vs H Q E h => ?_) (fun cdv A outer s H vs Q E hr h => ?_)
  · obtain ⟨p, d, al, c, w, x, is, rfl, _⟩ := h
    rfl
  · obtain ⟨p, d, al, c, w, x, is, rfl, W, hl, hc, hi, k⟩ := h
    have nd := sc_RowWalk_can_follow.nd
    refine ⟨_, pss_cons (ps_if (PW.pt (pw_or (pt_not (pt_val (pe_callB call_isi (by rfl) T.nIsi (by decide +kernel) (pa_cons (pv 1) (pa_cons (pe_bltn (v := .ty "tuple") (by rfl) T.nTuple (by decide +kernel) rfl) pa_nil))))) (pw_or1 (pt_cmpR op_eq (pe_callB call_len_seq (by rfl) T.nLen PySem.boot_len (pa_cons (pv 1) pa_nil)) pe_int (nomark _))))) (pss_one (ps_ret pe_bl)) pss_nil)
      (pss_cons (ps_set (i := 2) nd rfl (Or.inl rfl) (pe_mD (pv 0) TW.cl DF hr pass0 (pa_cons (pe_ix ix_tup (pv 1) pe_int (fun _ _ => rfl)) pa_nil)))
      (pss_cons (ps_if (PW.pt (pw_or (pt_cmpR op_isN (pv 2) pe_non (nomark _)) (pw_or1 (pt_cmpR op_ne (pe_callB call_len_seq (by rfl) T.nLen PySem.boot_len (pa_cons (pv 1) pa_nil)) (pe_op op_add pe_int (pe_callB call_len_seq (by rfl) T.nLen PySem.boot_len (pa_cons (pv 2) pa_nil))) (nomark _))))) (pss_one (ps_ret pe_bl)) pss_nil)
      (pss_cons (ps_for PassesOwn.never rfl (pi_enumO rfl nEnum (pa_cons (pv 2) (pa_cons pe_int pa_nil))) (pg_tup (by rfl) (pgs_cons (pg_name (i := 3) nd rfl (Or.inl rfl)) (pgs_cons (pg_tup (by rfl) (pgs_cons (pg_name (i := 4) nd rfl (Or.inl rfl)) (pgs_cons (pg_name (i := 5) nd rfl (Or.inl rfl)) (pgs_cons (pg_name (i := 6) nd rfl (Or.inl rfl)) pgs_nil)))) pgs_nil)))
        (pss_cons (ps_set (i := 7) nd rfl (Or.inl rfl) (pe_ix ix_tup (pv 1) (pv 3) (fun _ _ => rfl)))
      (pss_one (ps_if (PW.pt (pw_or (pt_not (pt_val (pe_callB call_isi (by rfl) T.nIsi (by decide +kernel) (pa_cons (pv 7) (pa_cons (pe_bltn (v := .ty "int") (by rfl) T.nInt (by decide +kernel) rfl) pa_nil))))) (pw_or (pt_cmpR op_isB (pv 7) pe_bl (nomark _)) (pw_or (pt_cmpR op_isB (pv 7) pe_bl (nomark _)) (pw_or (pt_not (pt_chain op_le op_le (pv 4) (pv 7) (pv 5))) (pw_or1 (pt_cmpR op_eq (pv 7) (pv 6) (nomark _)))))))) (pss_one (ps_ret pe_bl)) pss_nil))))
      (pss_one (ps_ret pe_bl))))), ?_⟩
    have hil : ((.str x :: is.map V.int : List V).length : Int) = (is.length : Int) + 1 := by
      rw [List.length_cons, List.length_map]
      omega
    refine ⟨_, rfl, _, _, _, _, _, rfl, .ty "tuple", .base (.tup hc), kit_ty (r := true) (by decide +kernel), _, rfl, iteF ?_⟩
    refine ⟨_, rfl, c, _, rfl, .inr (SqT.of hc), rfl, _, rfl, ?_⟩
    refine ite2 (fun q => ?_) (fun _ => ?_)
    · have : ((.str x :: is.map V.int : List V).length : Int) = 0 := by simpa using q
      omega
    refine ⟨_, rfl, p, d, _, rfl, W.hp, rfl, _, rfl, c, _, 0, _, rfl, rfl, SqT.of hc, atI_nat (j := 0) rfl, ?_⟩
    refine ⟨p, d, al, w, x, rfl, W, hl, fun hn H1 s1 => ?_, fun fs hf l ps H1 s1 nl hls hq => ?_⟩
    · refine ⟨_, rfl, rfl, _, rfl, iteT ?_⟩
      refine iteT ?_
      have e : canF w x is = false := by
        unfold canF
        rw [hn]
      have k1 := k H1 s1
      rw [e] at k1
      exact k1
    · have hlp : ps.length = fs.length := hq.len
      have hc1 := s1 _ _ hc
      refine ⟨_, rfl, rfl, _, rfl, iteF ?_⟩
      refine ⟨_, rfl, c, _, rfl, .inr (SqT.of hc1), _, rfl, l, _, rfl, .inl (SqL.of hls), _, _, rfl, rfl, rfl, _, rfl, ?_⟩
      have lps : (ps.map V.ref).length = fs.length := by rw [List.length_map, hlp]
      have ke : ∀ b, (decide (is.length = fs.length) && (fs.zip is).all fun q => okF q.1 q.2) = b → ∀ H', Same H H' → Q (.bl b) H' := fun b e H' s => by
        have k1 := k H' s
        unfold canF at k1
        rw [hf] at k1
        dsimp only at k1
        rw [e] at k1
        exact k1
      refine ite2 (fun q => ?_) (fun q => ?_)
      · have q' : ((.str x :: is.map V.int : List V).length : Int) ≠ 1 + ((ps.map V.ref).length : Int) := by simpa using q
        have ne : ¬ is.length = fs.length := by
          rw [lps] at q'
          omega
        refine ke false ?_ _ s1
        rw [decide_eq_false ne, Bool.false_and]
      · have q' : ((.str x :: is.map V.int : List V).length : Int) = 1 + ((ps.map V.ref).length : Int) := by simpa using q
        have el : is.length = fs.length := by
          rw [lps] at q'
          omega
        refine ⟨_, rfl, l, _, rfl, SqL.of hls, ?_⟩
        refine for_it (walk_enumO (K := K) (a := l) (xs := ps.map V.ref)) (fun i σ H' => ∃ o3 o4 o5 o6 o7 : Option V, σ = [some (.ref p), some (.ref c), some (.ref l), o3, o4, o5, o6, o7] ∧ Same H1 H' ∧ (((fs.zip is).take i).all fun q => okF q.1 q.2) = true)
          ⟨none, none, none, none, none, rfl, Same.refl H1, rfl⟩ (fun i σ H' _ ⟨_, _, _, _, _, _, s, _⟩ => SqL.of (s _ _ hls)) ?turn ?done
        case done =>
          rintro σ H2 ⟨o3, o4, o5, o6, o7, rfl, s2, hall⟩
          have lz : (fs.zip is).length = fs.length := by rw [List.length_zip, el, Nat.min_self]
          rw [lps, ← lz, List.take_length] at hall
          refine ke true ?_ _ (s1.trans s2)
          rw [hall, decide_eq_true el]
          rfl
        case turn =>
          rintro i y σ H2 H3 hi' ⟨o3, o4, o5, o6, o7, rfl, s2, hall⟩ ⟨tp, x0, y0, rfl, ntp, rfl, ex, ey⟩
          cases ex
          have hi2 : i < fs.length := by rw [← lps]; exact hi'
          obtain ⟨fp, hfp⟩ : ∃ fp, ps[i]? = some fp := ⟨_, List.getElem?_eq_getElem (by rw [hlp]; exact hi2)⟩
          have ey' : y0 = .ref fp := by
            have ey2 : (ps.map V.ref)[i]? = some y0 := ey
            rw [List.getElem?_map, hfp] at ey2
            exact (Option.some.inj ey2).symm
          subst ey'
          obtain ⟨f, hf2, hfq⟩ := hq.get hfp
          obtain ⟨z, hz⟩ : ∃ z, is[i]? = some z := ⟨_, List.getElem?_eq_getElem (by omega)⟩
          have hzip : (fs.zip is)[i]? = some (f, z) := by rw [List.getElem?_zip_eq_some]; exact ⟨hf2, hz⟩
          have s3 := sadd (o := .tup [.int ((i + 1 : Nat) : Int), .ref fp]) s2 ntp
          have htp : upd H2 tp (.tup [.int ((i + 1 : Nat) : Int), .ref fp]) tp = some (.tup [.int ((i + 1 : Nat) : Int), .ref fp]) := upd_same
          generalize upd H2 tp (.tup [.int ((i + 1 : Nat) : Int), .ref fp]) = H3 at s3 htp ⊢
          have bad : okF f z = false → Q (.bl false) H3 := fun e => by
            refine ke false ?_ _ (s1.trans s3)
            have : ((fs.zip is).all fun q => okF q.1 q.2) = false := List.all_eq_false.mpr ⟨(f, z), List.mem_of_getElem? hzip, by rw [e]; exact Bool.false_ne_true⟩
            rw [this, Bool.and_false]
          have good : okF f z = true → (((fs.zip is).take (i + 1)).all fun q => okF q.1 q.2) = true := fun e => by
            rw [List.take_add_one, hzip, List.all_append, hall]
            show (true && (okF f z && true)) = true
            rw [e]
            rfl
          have hfq3 := hfq.sm s3
          have hc3 := s3 _ _ hc1
          obtain ⟨lo, hi, ot⟩ := f
          refine ⟨tp, _, rfl, SqT.of htp, rfl, _, _, rfl, _, _, rfl, fp, _, rfl, hfq3, rfl, _, _, rfl, _, _, rfl, _, _, rfl, rfl, rfl, ?_⟩
          refine ⟨_, rfl, _, rfl, c, _, ((i + 1 : Nat) : Int), _, rfl, rfl, SqT.of hc3, atI_nat (j := i + 1) (v := .int z) (by rw [List.getElem?_cons_succ, List.getElem?_map, hz]; rfl), ?_⟩
          refine ⟨_, rfl, _, _, _, _, _, rfl, .ty "int", .base (.int z), kit_ty (r := true) (by decide +kernel), _, rfl, iteF ?_⟩
          refine ⟨_, rfl, true, rfl, .inl ⟨⟨z, rfl⟩, _, rfl, iteF ?_⟩⟩
          refine ⟨_, rfl, false, rfl, .inl ⟨⟨z, rfl⟩, _, rfl, iteF ?_⟩⟩
          refine ⟨_, rfl, _, rfl, _, _, rfl, rfl, _, rfl, ?_⟩
          refine ite2 (fun h1 => ?_) (fun h1 => ?_)
          · refine ⟨_, rfl, _, _, rfl, rfl, _, rfl, ?_⟩
            cases h2 : decide (z ≤ hi) with
            | false =>
              refine iteT (iteT (bad ?_))
              show (decide (lo ≤ z) && decide (z ≤ hi) && _) = false
              rw [h2, Bool.and_false, Bool.false_and]
            | true =>
              refine iteF ?_
              refine ⟨_, rfl, _, rfl, ?_⟩
              have sc : scal (V.int z) (optV ot) = true := by cases ot <;> rfl
              have eo : decide (V.int z = optV ot) = decide (ot = some z) := by
                cases ot with
                | none => rfl
                | some o =>
                  show decide (V.int z = V.int o) = _
                  by_cases e : o = z
                  · subst e
                    rw [decide_eq_true rfl, decide_eq_true rfl]
                  · rw [decide_eq_false (fun y => e (Option.some.inj y)), decide_eq_false (fun y => e (V.int.inj y).symm)]
              refine ⟨sc, _, rfl, ?_⟩
              rw [eo]
              have e0 : okF (lo, hi, ot) z = !decide (ot = some z) := by
                show (decide (lo ≤ z) && decide (z ≤ hi) && !decide (ot = some z)) = _
                rw [h1, h2]
                rfl
              refine ite2 (fun h3 => ?_) (fun h3 => ?_)
              · exact bad (by rw [e0, h3]; rfl)
              · exact ⟨_, _, _, _, _, rfl, s3, good (by rw [e0, Bool.eq_false_iff.mpr h3]; rfl)⟩
          · refine ⟨_, rfl, iteT (iteT (bad ?_))⟩
            show (decide (lo ≤ z) && decide (z ≤ hi) && _) = false
            rw [Bool.eq_false_iff.mpr h1, Bool.false_and, Bool.false_and]
end
end OH
end
section
set_option Elab.async false
set_option linter.all false
set_option maxRecDepth 100000
set_option maxHeartbeats 4000000
/-! RowWalk.take, good rows, rows walked. -/
namespace OH
open PySem PySem.Spec PyProof.Rows L2
def tk (w : Wk) : Crs → Wk
  | .start _ => { w with ins := some 0 }
  | .call a b _ _ => { w with asks := w.asks ++ [(a, b)], ins := some b }
  | .back _ b _ => { w with asks := w.asks.dropLast, ins := some b }
  | _ => { w with over := true }
def Crs.wd : Crs → Str
  | .start _ => "start"
  | .call .. => "call"
  | .back .. => "back"
  | .deep .. => "deep"
  | .done _ => "done"
  | .fin _ => "end"
def Crs.is : Crs → List Int
  | .start n => [n]
  | .call a b d n => [a, b, d, n]
  | .back a b n => [a, b, n]
  | .deep a b d n => [a, b, d, n]
  | .done n => [n]
  | .fin a => [a]
theorem Crs.vs_eq (x : Crs) : x.vs = .str x.wd :: x.is.map V.int := by cases x <;> rfl
def canC (w : Wk) (x : Crs) : Bool := canF w x.wd x.is
/-- a back takes an open ask -/
def tkOk (w : Wk) : Crs → Prop
  | .back .. => w.asks ≠ []
  | _ => True
def spTake (CW : Addr) : Sp := fun vs H Q _ => ∃ (p d al c : Addr) (w : Wk) (x : Crs), vs = [.ref p, .ref c] ∧ WkAt CW H p d al w ∧ p ≠ al ∧ w.asks.length ≤ 1000000 ∧ H c = some (.tup x.vs) ∧ tkOk w x ∧ ∀ H', WkAt CW H' p d al (tk w x) → Kept [p, al] H H' → Q .non H'
section
variable {P : Program} {w : World} {K : PySem.W.Frag} {mg : Str → Option Value} {base : Heap} {CW aN aD : Addr}
abbrev nTake : List Str := ["self", "crossing", "word"]
theorem sc_RowWalk_take : FnScope nTake ["self", "crossing"] (defScope s_RowWalk_take) := ⟨rfl, rfl, rfl, by decide +kernel, rfl, by decide +kernel, by decide +kernel⟩
theorem ok_RowWalk_take {f : Addr} {fd : FuncData} (F : Fun K "take" "RowWalk.take" s_RowWalk_take f fd) (TW : TxW K CW) : FnOk P w K mg base CX0 1 f fd ["self", "crossing"] (spTake CW) := by
  refine F.ok sc_RowWalk_take (fun vs H Q E h => ?_) (fun cdv A outer s H vs Q E hr h => ?_)
  · obtain ⟨p, d, al, c, w, x, rfl, _⟩ := h
    rfl
  · obtain ⟨p, d, al, c, w, x, rfl, W, npa, hl, hc, hb, k⟩ := h
    have nd := sc_RowWalk_take.nd
    refine ⟨_, pss_cons (ps_set (i := 2) nd rfl (Or.inl rfl) (pe_ix ix_tup (pv 1) pe_int (fun _ _ => rfl)))
      (pss_one (ps_if (pt_cmpR op_eq (pv 2) pe_str (nomark _)) (pss_one (ps_fld (pv 0) pe_int rfl)) (pss_one (ps_if (pt_cmpR op_eq (pv 2) pe_str (nomark _)) (pss_cons (ps_expr (pe_bm PySem.F.plainAttrs_list PySem.F.slot_list_append PySem.F.type_list_append mt_append (pe_fld (pv 0) rfl) (pa_cons (pe_tup (pa_cons (pe_ix ix_tup (pv 1) pe_int (fun _ _ => rfl)) (pa_cons (pe_ix ix_tup (pv 1) pe_int (fun _ _ => rfl)) pa_nil))) pa_nil)))
      (pss_one (ps_fld (pv 0) (pe_ix ix_tup (pv 1) pe_int (fun _ _ => rfl)) rfl))) (pss_one (ps_if (pt_cmpR op_eq (pv 2) pe_str (nomark _)) (pss_cons (ps_expr (pe_bm0 PySem.F.plainAttrs_list PySem.F.slot_list_pop PySem.F.type_list_pop mt_pop (pe_fld (pv 0) rfl)))
      (pss_one (ps_fld (pv 0) (pe_ix ix_tup (pv 1) pe_int (fun _ _ => rfl)) rfl))) (pss_one (ps_fld (pv 0) pe_bl rfl)))))))), ?_⟩
    obtain ⟨aps, ha, ha2⟩ := W.ha
    have la := ha2.len
    have kp : ∀ {H' : Hp}, Kept [p, al] H H' → ∀ q xs, H q = some (.tup xs) → H' q = some (.tup xs) := fun kk q xs e => kk _ _ e (fun z => by
      rcases List.mem_cons.mp z with z | z
      · rw [z, W.hp] at e; cases e
      · rw [List.mem_singleton.mp z, ha] at e; cases e)
    -- the instance alone changes
    have fin1 : ∀ (i : Option Int) (o : Bool), WkAt CW (upd H p (.ins CW d (wkf { w with ins := i, over := o } al))) p d al { w with ins := i, over := o } := fun i o =>
      ⟨upd_same, aps, (upd_ne npa.symm).trans ha, ha2.mono (kp (Kept.refl.upd (List.mem_cons_self ..)))⟩
    have k1 : ∀ o, Kept [p, al] H (upd H p o) := fun o => Kept.refl.upd (List.mem_cons_self ..)
    cases x with
    | start n =>
      refine ⟨_, rfl, c, _, 0, _, rfl, rfl, SqT.of hc, rfl, ?_⟩
      refine ⟨_, rfl, rfl, _, rfl, iteT ?_⟩
      refine ⟨_, rfl, p, CW, d, _, rfl, W.hp, TW.cl, TW.nI, (by show 3 < 1000; decide), ?_⟩
      exact k _ (fin1 (some 0) w.over) (k1 _)
    | deep a b e n =>
      refine ⟨_, rfl, c, _, 0, _, rfl, rfl, SqT.of hc, rfl, ?_⟩
      refine ⟨_, rfl, rfl, _, rfl, iteF ?_⟩
      refine ⟨_, rfl, rfl, _, rfl, iteF ?_⟩
      refine ⟨_, rfl, rfl, _, rfl, iteF ?_⟩
      refine ⟨_, rfl, p, CW, d, _, rfl, W.hp, TW.cl, TW.nO, (by show 3 < 1000; decide), ?_⟩
      exact k _ (fin1 w.ins true) (k1 _)
    | done n =>
      refine ⟨_, rfl, c, _, 0, _, rfl, rfl, SqT.of hc, rfl, ?_⟩
      refine ⟨_, rfl, rfl, _, rfl, iteF ?_⟩
      refine ⟨_, rfl, rfl, _, rfl, iteF ?_⟩
      refine ⟨_, rfl, rfl, _, rfl, iteF ?_⟩
      refine ⟨_, rfl, p, CW, d, _, rfl, W.hp, TW.cl, TW.nO, (by show 3 < 1000; decide), ?_⟩
      exact k _ (fin1 w.ins true) (k1 _)
    | fin a =>
      refine ⟨_, rfl, c, _, 0, _, rfl, rfl, SqT.of hc, rfl, ?_⟩
      refine ⟨_, rfl, rfl, _, rfl, iteF ?_⟩
      refine ⟨_, rfl, rfl, _, rfl, iteF ?_⟩
      refine ⟨_, rfl, rfl, _, rfl, iteF ?_⟩
      refine ⟨_, rfl, p, CW, d, _, rfl, W.hp, TW.cl, TW.nO, (by show 3 < 1000; decide), ?_⟩
      exact k _ (fin1 w.ins true) (k1 _)
    | call a b e n =>
      refine ⟨_, rfl, c, _, 0, _, rfl, rfl, SqT.of hc, rfl, ?_⟩
      refine ⟨_, rfl, rfl, _, rfl, iteF ?_⟩
      refine ⟨_, rfl, rfl, _, rfl, iteT ?_⟩
      refine ⟨_, rfl, p, CW, d, _, _, rfl, W.hp, TW.cl, TW.nA, rfl, .inl ⟨rfl, _, SqL.of ha⟩, ?_⟩
      refine ⟨_, rfl, c, _, 1, _, rfl, rfl, SqT.of hc, rfl, _, rfl, c, _, 2, _, rfl, rfl, SqT.of hc, rfl, (by show 2 ≤ sizeLine; decide), fun t nt => ?_⟩
      have s1 := sadd (o := .tup [.int a, .int b]) (Same.refl H) nt
      have ht : upd H t (.tup [.int a, .int b]) t = some (.tup (pairV (a, b))) := upd_same
      have na := s1 _ _ ha
      have kk1 : Kept [p, al] H (upd H t (.tup [.int a, .int b])) := Kept.refl.new nt
      have ha3 := ha2.mono (fun q xs e => s1 q _ e)
      refine ⟨al, _, _, rfl, rfl, na, (by rw [List.length_map, la, sizeLine_eq]; omega), ?_⟩
      have hp1 := s1 _ _ W.hp
      have hc1 := s1 _ _ hc
      generalize upd H t (.tup [.int a, .int b]) = H1 at s1 ht na kk1 ha3 hp1 hc1 ⊢
      have nca : c ≠ al := ne_of hc1 na (fun z => nomatch z)
      have hp2 : upd H1 al (.lst (aps.map V.ref ++ [.ref t])) p = some (.ins CW d (wkf w al)) := (upd_ne npa).trans hp1
      have hc2 : upd H1 al (.lst (aps.map V.ref ++ [.ref t])) c = some (.tup (Crs.call a b e n).vs) := (upd_ne nca).trans hc1
      have kk2 : Kept [p, al] H (upd H1 al (.lst (aps.map V.ref ++ [.ref t]))) := kk1.upd (List.mem_cons_of_mem _ (List.mem_singleton.mpr rfl))
      have ha4 : upd H1 al (.lst (aps.map V.ref ++ [.ref t])) al = some (.lst ((aps ++ [t]).map V.ref)) := by rw [upd_same, List.map_append]; rfl
      have tn : ∀ q xs, H1 q = some (.tup xs) → upd H1 al (.lst (aps.map V.ref ++ [.ref t])) q = some (.tup xs) := fun q xs e => (upd_ne (ne_of e na (fun z => nomatch z))).trans e
      have ha5 := AllAt.app (ha3.mono tn) (tn _ _ ht) (x := (a, b))
      generalize upd H1 al (.lst (aps.map V.ref ++ [.ref t])) = H2 at hp2 hc2 kk2 ha4 ha5 ⊢
      refine ⟨_, rfl, c, _, 2, _, rfl, rfl, SqT.of hc2, rfl, _, rfl, p, CW, d, _, rfl, hp2, TW.cl, TW.nI, (by show 3 < 1000; decide), ?_⟩
      refine k _ ⟨upd_same, aps ++ [t], (upd_ne npa.symm).trans ha4, ha5.mono fun q xs e => (upd_ne (ne_of e hp2 (fun z => nomatch z))).trans e⟩ (kk2.upd (List.mem_cons_self ..))
    | back a b n =>
      refine ⟨_, rfl, c, _, 0, _, rfl, rfl, SqT.of hc, rfl, ?_⟩
      refine ⟨_, rfl, rfl, _, rfl, iteF ?_⟩
      refine ⟨_, rfl, rfl, _, rfl, iteF ?_⟩
      refine ⟨_, rfl, rfl, _, rfl, iteT ?_⟩
      have hne : w.asks ≠ [] := hb
      have l0 : 0 < w.asks.length := List.length_pos_iff.mpr hne
      obtain ⟨lp, hlp⟩ : ∃ lp, aps[aps.length - 1]? = some lp := ⟨_, List.getElem?_eq_getElem (by omega)⟩
      refine ⟨_, rfl, p, CW, d, _, _, rfl, W.hp, TW.cl, TW.nA, rfl, .inl ⟨rfl, _, SqL.of ha⟩, al, _, .ref lp, rfl, rfl, ha, (by rw [List.length_map, List.getElem?_map, hlp]; rfl), ?_⟩
      have ed : (aps.map V.ref).dropLast = aps.dropLast.map V.ref := List.map_dropLast.symm
      rw [ed]
      have hp2 : upd H al (.lst (aps.dropLast.map V.ref)) p = some (.ins CW d (wkf w al)) := (upd_ne npa).trans W.hp
      have nca : c ≠ al := ne_of hc ha (fun z => nomatch z)
      have hc2 : upd H al (.lst (aps.dropLast.map V.ref)) c = some (.tup (Crs.back a b n).vs) := (upd_ne nca).trans hc
      have kk2 : Kept [p, al] H (upd H al (.lst (aps.dropLast.map V.ref))) := Kept.refl.upd (List.mem_cons_of_mem _ (List.mem_singleton.mpr rfl))
      have ha4 : upd H al (.lst (aps.dropLast.map V.ref)) al = some (.lst (aps.dropLast.map V.ref)) := upd_same
      have ha5 := (ha2.mono (kp kk2)).pop
      generalize upd H al (.lst (aps.dropLast.map V.ref)) = H2 at hp2 hc2 kk2 ha4 ha5 ⊢
      refine ⟨_, rfl, c, _, 2, _, rfl, rfl, SqT.of hc2, rfl, _, rfl, p, CW, d, _, rfl, hp2, TW.cl, TW.nI, (by show 3 < 1000; decide), ?_⟩
      refine k _ ⟨upd_same, aps.dropLast, (upd_ne npa.symm).trans ha4, ha5.mono fun q xs e => (upd_ne (ne_of e hp2 (fun z => nomatch z))).trans e⟩ (kk2.upd (List.mem_cons_self ..))
end
end OH
end
section
set_option Elab.async false
set_option linter.all false
set_option maxRecDepth 100000
set_option maxHeartbeats 4000000
/-! Good rows, rows walked. -/
namespace OH
open PySem PySem.Spec PyProof.Rows L2
theorem Crs.is_le (x : Crs) : x.is.length ≤ 1000 := by
  cases x <;> (show _ ≤ _; simp [Crs.is])
def w0 : Wk := ⟨none, [], false⟩
def goodGo (w : Wk) : List Crs → Bool
  | [] => true
  | x :: xs => canC w x && goodGo (tk w x) xs
def goodB (cs : List Crs) : Bool := !cs.isEmpty && goodGo w0 cs
def wk (w : Wk) (cs : List Crs) : Wk := cs.foldl tk w
theorem canC_back {w : Wk} {x : Crs} (h : canC w x = true) : tkOk w x := by
  cases x with
  | back a b n =>
    intro e
    unfold canC canF at h
    have hf : fld w "back" = none := by
      unfold fld
      split
      · rfl
      · split
        · rw [if_neg (by decide)]
        · rw [if_neg (fun z => z.elim (fun z => absurd z.1 (by decide)) (fun z => absurd z.1 (by decide))), if_neg (fun z => by rw [e] at z; exact absurd z.2 (by decide)), if_neg (fun z => absurd z.1 (by decide)), if_neg (by decide)]
    rw [show Crs.wd (.back a b n) = "back" from rfl, hf] at h
    cases h
  | _ => trivial
theorem tk_len (w : Wk) (x : Crs) : (tk w x).asks.length ≤ w.asks.length + 1 := by
  cases x with
  | call a b d n => show (w.asks ++ [(a, b)]).length ≤ _; rw [List.length_append]; exact Nat.le_refl _
  | back a b n => show (w.asks.dropLast).length ≤ _; rw [List.length_dropLast]; omega
  | _ => exact Nat.le_succ _
theorem wk_len : ∀ (cs : List Crs) (w : Wk), (wk w cs).asks.length ≤ w.asks.length + cs.length
  | [], w => Nat.le_refl _
  | x :: xs, w => by
    have h1 := wk_len xs (tk w x)
    have h2 := tk_len w x
    show (wk (tk w x) xs).asks.length ≤ _
    rw [List.length_cons]
    omega
theorem wk_snoc (w : Wk) (cs : List Crs) (x : Crs) : wk w (cs ++ [x]) = tk (wk w cs) x := by
  unfold wk
  rw [List.foldl_append]
  rfl
theorem goodGo_app : ∀ (xs ys : List Crs) (w : Wk), goodGo w (xs ++ ys) = (goodGo w xs && goodGo (wk w xs) ys)
  | [], ys, w => rfl
  | x :: xs, ys, w => by
    show (canC w x && goodGo (tk w x) (xs ++ ys)) = ((canC w x && goodGo (tk w x) xs) && goodGo (wk (tk w x) xs) ys)
    rw [goodGo_app xs ys, Bool.and_assoc]
def RwAt (H : Hp) (l : Addr) (cs : List Crs) : Prop := ∃ ps : List Addr, H l = some (.lst (ps.map V.ref)) ∧ AllAt H Crs.vs ps cs
theorem RwAt.same {H H' : Hp} {l : Addr} {cs : List Crs} (h : RwAt H l cs) (s : Same H H') : RwAt H' l cs := by
  obtain ⟨ps, h1, h2⟩ := h
  exact ⟨ps, s _ _ h1, h2.mono fun q xs e => s _ _ e⟩
/-- new objects alone have changed -/
theorem Same.kept {H H1 H2 : Hp} {S : List Addr} (s : Same H H1) (k : Kept S H1 H2) (f : ∀ q ∈ S, H q = none) : Same H H2 := fun q o e => k _ _ (s _ _ e) (fun z => by rw [f q z] at e; cases e)
def spGoodR : Sp := fun vs H Q _ => ∃ (l : Addr) (cs : List Crs), vs = [.ref l] ∧ RwAt H l cs ∧ cs.length ≤ 1000 ∧ ∀ H', Same H H' → Q (.bl (goodB cs)) H'
def spNeedRow : Sp := fun vs H Q _ => ∃ (l : Addr) (cs : List Crs), vs = [.ref l] ∧ RwAt H l cs ∧ cs.length ≤ 1000 ∧ goodB cs = true ∧ ∀ H', Same H H' → Q .non H'
def spWalked (CW : Addr) : Sp := fun vs H Q _ => ∃ (l : Addr) (cs : List Crs), vs = [.ref l] ∧ RwAt H l cs ∧ cs.length ≤ 1000 ∧ goodB cs = true ∧ ∀ p d al H', Same H H' → H p = none → H al = none → p ≠ al → WkAt CW H' p d al (wk w0 cs) → Q (.ref p) H'
def spControl : Sp := fun vs H Q _ => ∃ (l : Addr) (cs : List Crs), vs = [.ref l] ∧ RwAt H l cs ∧ cs.length ≤ 1000 ∧ goodB cs = true ∧ ∀ H', Same H H' → Q (if (wk w0 cs).over = true then .non else optV (wk w0 cs).ins) H'
def spOpen : Sp := fun vs H Q _ => ∃ (l : Addr) (cs : List Crs), vs = [.ref l] ∧ RwAt H l cs ∧ cs.length ≤ 1000 ∧ goodB cs = true ∧ ∀ al ps H', Same H H' → H al = none → H' al = some (.lst (ps.map V.ref)) → AllAt H' pairV ps (wk w0 cs).asks → Q (.ref al) H'
section
variable {X : Cx} {CX : CXT} {k : Nat} {C : Addr} {sp : Sp} {E : XK} {x : Str} {p pos : Pos}
theorem pe_kD0 (D : MakF X.prog X.w X.K X.mg X.base CX k x C ["self"] sp) (hr : Room (k + 1) X.A) (hg : Gl X x) (hx : Passes CX X E) (hdb : (x == ("__debug__" : Str)) = false := by decide) : PE X (.Call (.Name x p) [] [] pos) (tMake C sp [] E tNil) := by
  obtain ⟨f, fd, F, h1, h2, h3⟩ := D
  exact pe_make0 h1 F hr hg h2 h3 .nil hx hdb
end
section
variable {P : Program} {w : World} {K : PySem.W.Frag} {mg : Str → Option Value} {base : Heap} {CW aN aD : Addr}
theorem sc_good_row : FnScope ["value", "walk", "crossing"] ["value"] (defScope s_good_row) := ⟨rfl, rfl, rfl, by decide +kernel, rfl, by decide +kernel, by decide +kernel⟩
theorem ok_good_row {f : Addr} {fd : FuncData} (F : Fun K "good_row" "good_row" s_good_row f fd) (T : Txt K mg) (TW : TxW K CW)
    (DK : MakF P w K mg base CX0 2 "RowWalk" CW ["self"] (spKInit CW)) (DC : MetF P w K mg base CX0 3 CW "can_follow" ["self", "crossing"] (spCan CW)) (DT : MetF P w K mg base CX0 3 CW "take" ["self", "crossing"] (spTake CW)) :
    FnOk P w K mg base CX0 4 f fd ["value"] spGoodR := by
  refine F.ok sc_good_row (fun vs H Q E h => ?_) (fun cdv A outer s H vs Q E hr h => ?_)
  · obtain ⟨l, cs, rfl, _⟩ := h
    rfl
  · obtain ⟨l, cs, rfl, hl, hn, k⟩ := h
    have nd := sc_good_row.nd
    refine ⟨_, pss_cons (ps_if (PW.pt (pw_or (pt_not (pt_val (pe_callB call_isiT (by rfl) T.nIsi (by decide +kernel) (pa_cons (pv 0) (pa_cons (pe_tup (pa_cons (pe_bltn (v := .ty "list") (by rfl) T.nList (by decide +kernel) rfl) (pa_cons (pe_bltn (v := .ty "tuple") (by rfl) T.nTuple (by decide +kernel) rfl) pa_nil))) pa_nil))))) (pw_or1 (pt_cmpR op_eq (pe_callB call_len_seq (by rfl) T.nLen PySem.boot_len (pa_cons (pv 0) pa_nil)) pe_int (nomark _))))) (pss_one (ps_ret pe_bl)) pss_nil)
      (pss_cons (ps_set (i := 1) nd rfl (Or.inl rfl) (pe_kD0 DK hr rfl pass0))
      (pss_cons (ps_for PassesOwn.never rfl (pi_list (pv 0)) (pg_name (i := 2) nd rfl (Or.inl rfl))
        (pss_cons (ps_if (pt_not (pt_val (pe_mD (pv 1) TW.cl DC hr pass0 (pa_cons (pv 2) pa_nil)))) (pss_one (ps_ret pe_bl)) pss_nil)
      (pss_one (ps_expr (pe_mD (pv 1) TW.cl DT hr pass0 (pa_cons (pv 2) pa_nil))))))
      (pss_one (ps_ret pe_bl)))), ?_⟩
    obtain ⟨ps, h1, h2⟩ := hl
    have lp := h2.len
    refine ⟨_, rfl, (by show 2 ≤ sizeLine; decide), fun tp ntp => ?_⟩
    have s1 := sadd (o := .tup [.ty "list", .ty "tuple"]) (Same.refl H) ntp
    have htp : upd H tp (.tup [.ty "list", .ty "tuple"]) tp = some (.tup [.ty "list", .ty "tuple"]) := upd_same
    generalize upd H tp (.tup [.ty "list", .ty "tuple"]) = H1 at s1 htp ⊢
    have hl1 := s1 _ _ h1
    refine ⟨_, tp, _, _, _, _, rfl, htp, .cons (.ty _) (.cons (.ty _) .nil), .base (.lst hl1), kitAny_cons (kit_ty (r := true) (by decide +kernel)) (fun z => nomatch z) (fun _ => rfl), _, rfl, iteF ?_⟩
    refine ⟨_, rfl, l, _, rfl, .inl (SqL.of hl1), rfl, _, rfl, ?_⟩
    refine ite2 (fun q => ?_) (fun q => ?_)
    · have e0 : ((ps.map V.ref).length : Int) = 0 := by simpa using q
      have e : cs = [] := by
        rw [List.length_map, lp] at e0
        exact List.length_eq_zero_iff.mp (by omega)
      subst e
      exact k H1 s1
    · have e0 : ¬ ((ps.map V.ref).length : Int) = 0 := by simpa using q
      have ne : goodB cs = goodGo w0 cs := by
        unfold goodB
        cases cs with
        | nil => rw [List.length_map, lp] at e0; exact absurd rfl e0
        | cons _ _ => rfl
      rw [ne] at k
      intro p d np ndx npd
      have s2 := sadd (o := .ins CW d []) (sadd (o := .own p) (Same.refl H1) ndx) (by rw [upd_ne npd.symm]; exact np)
      have hp2 : upd (upd H1 d (.own p)) p (.ins CW d []) p = some (.ins CW d []) := upd_same
      have npH : H p = none := s1.free np
      generalize upd (upd H1 d (.own p)) p (.ins CW d []) = H2 at s2 hp2 ⊢
      refine ⟨p, d, rfl, hp2, fun al H3 nal alp W k3 => ⟨rfl, ?_⟩⟩
      have s12 := s1.trans s2
      have nalH : H al = none := s12.free nal
      have f2 : ∀ q ∈ [p], H q = none := fun q hq => by rw [List.mem_singleton.mp hq]; exact npH
      have f3 : ∀ q ∈ [p, al], H q = none := fun q hq => by
        rcases List.mem_cons.mp hq with z | z
        · rw [z]; exact npH
        · rw [List.mem_singleton.mp z]; exact nalH
      have s3 : Same H H3 := Same.kept s12 k3 f2
      refine ⟨_, rfl, l, rfl, ⟨_, SqL.of (s3 _ _ h1)⟩, ?_⟩
      refine for_list (xs := ps.map V.ref) (fun i σ H' => ∃ o : Option V, σ = [some (.ref l), some (.ref p), o] ∧ Same H H' ∧ WkAt CW H' p d al (wk w0 (cs.take i)) ∧ goodGo w0 (cs.take i) = true) ⟨none, rfl, s3, W, rfl⟩ (fun i σ H' _ ⟨o, _, s, _⟩ => SqL.of (s _ _ h1)) ?turn ?done
      case done =>
        rintro σ H4 ⟨o, rfl, s4, W4, g4⟩
        have e : cs.take (ps.map V.ref).length = cs := by rw [List.length_map, lp]; exact List.take_length
        rw [e] at g4
        have k4 := k H4 s4
        rw [g4] at k4
        exact k4
      case turn =>
        rintro i y σ H4 hy ⟨o, rfl, s4, W4, g4⟩
        rw [List.getElem?_map] at hy
        obtain ⟨c, hc, rfl⟩ := Option.map_eq_some_iff.mp hy
        have hi : i < cs.length := by rw [← lp]; exact (List.getElem?_eq_some_iff.mp hc).1
        obtain ⟨x, hx⟩ : ∃ x, cs[i]? = some x := ⟨_, List.getElem?_eq_getElem hi⟩
        obtain ⟨c', hc', hcx⟩ := h2.get hx
        rw [hc] at hc'
        cases hc'
        have hc4 := s4 _ _ hcx
        have tki : cs.take (i + 1) = cs.take i ++ [x] := by rw [List.take_add_one, hx]; rfl
        have lw : (wk w0 (cs.take i)).asks.length ≤ 1000000 := by
          have := wk_len (cs.take i) w0
          rw [List.length_take] at this
          have e0 : w0.asks.length = 0 := rfl
          omega
        refine ⟨_, rfl, p, d, _, rfl, W4.hp, rfl, _, rfl, ?_⟩
        refine ⟨p, d, al, c, _, x.wd, x.is, rfl, W4, lw, by rw [← Crs.vs_eq]; exact hc4, x.is_le, fun H5 s5 => ?_⟩
        have W5 : WkAt CW H5 p d al (wk w0 (cs.take i)) := ⟨s5 _ _ W4.hp, by obtain ⟨as, a1, a2⟩ := W4.ha; exact ⟨as, s5 _ _ a1, a2.mono fun q xs e => s5 _ _ e⟩⟩
        refine ⟨_, rfl, ?_⟩
        have ce : canF (wk w0 (cs.take i)) x.wd x.is = canC (wk w0 (cs.take i)) x := rfl
        rw [ce]
        cases hcan : canC (wk w0 (cs.take i)) x with
        | false =>
          refine iteT ?_
          have eg : goodGo w0 cs = false := by
            have e1 : cs = cs.take i ++ cs.drop i := (List.take_append_drop i cs).symm
            have e2 : cs.drop i = x :: cs.drop (i + 1) := by
              have := List.getElem?_eq_some_iff.mp hx
              rw [List.drop_eq_getElem_cons hi, this.2]
            rw [e1, goodGo_app, e2, g4]
            show (true && (canC (wk w0 (cs.take i)) x && _)) = false
            rw [hcan]
            rfl
          have k5 := k H5 (s4.trans s5)
          rw [eg] at k5
          exact k5
        | true =>
          refine iteF ?_
          refine ⟨_, rfl, p, d, _, rfl, W5.hp, rfl, _, rfl, ?_⟩
          refine ⟨p, d, al, c, _, x, rfl, W5, alp.symm, lw, s5 _ _ hc4, canC_back hcan, fun H6 W6 k6 => ?_⟩
          refine ⟨some (.ref c), rfl, Same.kept (s4.trans s5) k6 f3, ?_, ?_⟩
          · rw [tki, wk_snoc]
            exact W6
          · rw [tki, goodGo_app, g4]
            show (true && (canC (wk w0 (cs.take i)) x && true)) = true
            rw [hcan]
            rfl
theorem sc_need_row : FnScope ["row"] ["row"] (defScope s_need_row) := ⟨rfl, rfl, rfl, by decide +kernel, rfl, by decide +kernel, by decide +kernel⟩
theorem ok_need_row {f : Addr} {fd : FuncData} (F : Fun K "need_row" "need_row" s_need_row f fd) (DG : DefF P w K mg base CX0 4 "good_row" ["value"] spGoodR) : FnOk P w K mg base CX0 5 f fd ["row"] spNeedRow := by
  refine F.ok sc_need_row (fun vs H Q E h => ?_) (fun cdv A outer s H vs Q E hr h => ?_)
  · obtain ⟨l, cs, rfl, _⟩ := h
    rfl
  · obtain ⟨l, cs, rfl, hl, hn, hg, k⟩ := h
    refine ⟨_, pss_one (ps_if (pt_not (pt_val (pe_cD DG hr rfl pass0 (pa_cons (pv 0) pa_nil)))) (pss_one ps_never) pss_nil), ?_⟩
    refine ⟨_, rfl, l, cs, rfl, hl, hn, fun H1 s1 => ?_⟩
    rw [hg]
    exact ⟨_, rfl, iteF (k H1 s1)⟩
end
end OH
end
section
set_option Elab.async false
set_option linter.all false
set_option maxRecDepth 100000
set_option maxHeartbeats 1000000
/-! Rows of a face are good rows. -/
namespace OH
open PySem PySem.Spec PyProof.Rows L2
structure WR (s : Rs) (w : Wk) : Prop where
  as : w.asks = s.2
  st : s.1 = none → w.over = true
  ru : ∀ c, s.1 = some c → w.over = false ∧ w.ins = some c
theorem okF_num {n : Int} (h : Num n) : okF numF n = true := by
  obtain ⟨h0, h9⟩ := h
  show (decide ((0 : Int) ≤ n) && decide (n ≤ 9999) && !decide ((none : Option Int) = some n)) = true
  rw [decide_eq_true h0, decide_eq_true h9]
  rfl
theorem okF_own (r : Int) : okF (r, r, none) r = true := by
  show (decide (r ≤ r) && decide (r ≤ r) && !decide ((none : Option Int) = some r)) = true
  rw [decide_eq_true (Int.le_refl r)]
  rfl
theorem okF_asked {r b : Int} (b0 : 0 ≤ b) (b5 : b ≤ 5) (ne : b ≠ r) : okF (0, 5, some r) b = true := by
  show (decide ((0 : Int) ≤ b) && decide (b ≤ 5) && !decide (some r = some b)) = true
  rw [decide_eq_true b0, decide_eq_true b5, decide_eq_false (fun z => ne (Option.some.inj z).symm)]
  rfl
theorem okF_dor {d : Int} (d0 : 0 ≤ d) (d5 : d ≤ 5) : okF dorF d = true := by
  show (decide ((0 : Int) ≤ d) && decide (d ≤ 5) && !decide ((none : Option Int) = some d)) = true
  rw [decide_eq_true d0, decide_eq_true d5]
  rfl
theorem canF_of {w : Wk} {x : Str} {is : List Int} {fs : List Fd} (h : fld w x = some fs) (hl : is.length = fs.length) (ha : ((fs.zip is).all fun q => okF q.1 q.2) = true) : canF w x is = true := by
  unfold canF
  rw [h]
  show (decide (is.length = fs.length) && (fs.zip is).all fun q => okF q.1 q.2) = true
  rw [decide_eq_true hl, ha]
  rfl
theorem wire_rng {F : Fc} (hF : F.Ok) {c : Int} (c0 : 0 ≤ c) (c1 : c < (F.R : Int)) {b d : Int} (h : (b, d) ∈ F.ws c.toNat) : 0 ≤ b ∧ b ≤ 5 ∧ b < (F.R : Int) ∧ b ≠ c ∧ 0 ≤ d ∧ d ≤ 5 := by
  obtain ⟨w1, w2, w3, w4, w5⟩ := (hF.wi c.toNat (by omega)).2.2 _ h
  have w1' : 0 ≤ b := w1
  have w2' : b < (F.R : Int) := w2
  have w3' : b ≠ (c.toNat : Int) := w3
  have w4' : 0 ≤ d := w4
  have w5' : d < F.dor.getD b.toNat 0 := w5
  have h6 := hF.m6
  have d6 : F.dor.getD b.toNat 0 ≤ 6 := by
    rw [List.getD_eq_getElem?_getD, List.getElem?_eq_getElem (show b.toNat < F.dor.length by show b.toNat < F.R; omega)]
    exact (hF.dz _ (List.getElem_mem _)).2
  exact ⟨w1', by omega, w2', by omega, w4', by omega⟩
theorem WR.step {F : Fc} (hF : F.Ok) {s : Rs} {w : Wk} (hs : SOk F s) (hw : WR s w) {c : Int} (hc : s.1 = some c) {x : Crs} (hx : Nx F c s.2 x) : canC w x = true ∧ WR (bh s x) (tk w x) := by
  have ch := hs.ctl hc
  obtain ⟨c0, c1⟩ := ch.rng hF
  obtain ⟨ho, hi⟩ := hw.ru c hc
  have fl : ∀ x : Str, fld w x = if (x = "call" ∧ w.asks.length < 60) ∨ (x = "deep" ∧ 0 < w.asks.length) then some [(c, c, none), (0, 5, some c), dorF, numF]
    else if x = "back" ∧ 0 < w.asks.length then some [(c, c, none), ((w.asks.getLast?.getD (0, 0)).1, (w.asks.getLast?.getD (0, 0)).1, none), numF]
    else if x = "done" ∧ w.asks.length = 0 then some [numF]
    else if x = "end" then some [(c, c, none)] else none := fun x => by
    unfold fld
    rw [ho, hi]
    rfl
  have hle := hs.le
  have d60 := hF.d60
  have d1 := hF.d1
  have ea := hw.as
  cases x with
  | start n => exact hx.elim
  | call a b d n =>
    obtain ⟨e, hb, hl, hn⟩ := hx
    subst e
    obtain ⟨b0, b5, _, nb, e0, e5⟩ := wire_rng hF c0 c1 hb
    refine ⟨canF_of (fs := [(a, a, none), (0, 5, some a), dorF, numF]) ?_ rfl ?_, ?_, fun z => ?_, fun c' z => ?_⟩
    · rw [fl, if_pos (.inl ⟨rfl, by rw [ea]; omega⟩)]
    · show (okF (a, a, none) a && (okF (0, 5, some a) b && (okF dorF d && (okF numF n && true)))) = true
      rw [okF_own, okF_asked b0 b5 nb, okF_dor e0 e5, okF_num hn]
      rfl
    · show w.asks ++ [(a, b)] = s.2 ++ [(a, b)]
      rw [ea]
    · cases z
    · cases z
      exact ⟨ho, rfl⟩
  | deep a b d n =>
    obtain ⟨e, hb, hl, hn⟩ := hx
    subst e
    obtain ⟨b0, b5, _, nb, e0, e5⟩ := wire_rng hF c0 c1 hb
    refine ⟨canF_of (fs := [(a, a, none), (0, 5, some a), dorF, numF]) ?_ rfl ?_, ea, fun _ => rfl, fun c' z => by cases z⟩
    · rw [fl, if_pos (.inr ⟨rfl, by rw [ea]; omega⟩)]
    · show (okF (a, a, none) a && (okF (0, 5, some a) b && (okF dorF d && (okF numF n && true)))) = true
      rw [okF_own, okF_asked b0 b5 nb, okF_dor e0 e5, okF_num hn]
      rfl
  | back a b n =>
    obtain ⟨e, ⟨q, hq, hb⟩, hn⟩ := hx
    subst e
    have l0 : 0 < w.asks.length := by
      rw [ea]
      cases h : s.2 with
      | nil => rw [h] at hq; cases hq
      | cons _ _ => exact Nat.succ_pos _
    refine ⟨canF_of (fs := [(a, a, none), (b, b, none), numF]) ?_ rfl ?_, ?_, fun z => ?_, fun c' z => ?_⟩
    · show fld w "back" = _
      rw [fl, if_neg (fun z => z.elim (fun z => absurd z.1 (by decide)) (fun z => absurd z.1 (by decide))), if_pos ⟨rfl, l0⟩, ea, hq]
      show some [(a, a, none), (q.1, q.1, none), numF] = _
      rw [← hb]
    · show (okF (a, a, none) a && (okF (b, b, none) b && (okF numF n && true))) = true
      rw [okF_own, okF_own, okF_num hn]
      rfl
    · show w.asks.dropLast = s.2.dropLast
      rw [ea]
    · cases z
    · cases z
      exact ⟨ho, rfl⟩
  | done n =>
    obtain ⟨e, hn⟩ := hx
    refine ⟨canF_of (fs := [numF]) ?_ rfl ?_, ea, fun _ => rfl, fun c' z => by cases z⟩
    · show fld w "done" = _
      rw [fl, if_neg (fun z => z.elim (fun z => absurd z.1 (by decide)) (fun z => absurd z.1 (by decide))), if_neg (fun z => absurd z.1 (by decide)), if_pos ⟨rfl, by rw [ea, e]; rfl⟩]
    · show (okF numF n && true) = true
      rw [okF_num hn]
      rfl
  | fin a =>
    have e : a = c := hx
    subst e
    refine ⟨canF_of (fs := [(a, a, none)]) ?_ rfl ?_, ea, fun _ => rfl, fun c' z => by cases z⟩
    · show fld w "end" = _
      rw [fl, if_neg (fun z => z.elim (fun z => absurd z.1 (by decide)) (fun z => absurd z.1 (by decide))), if_neg (fun z => absurd z.1 (by decide)), if_neg (fun z => absurd z.1 (by decide)), if_pos rfl]
    · show (okF (a, a, none) a && true) = true
      rw [okF_own]
      rfl
theorem VRr.good {F : Fc} (hF : F.Ok) : ∀ {xs : List Crs} {s : Rs} {w : Wk}, SOk F s → WR s w → VRr F s xs → goodGo w xs = true ∧ WR (stt s xs) (wk w xs)
  | [], _, _, _, hw, _ => ⟨rfl, hw⟩
  | x :: xs, s, w, hs, hw, ⟨⟨c, hc, hx⟩, hr⟩ => by
    obtain ⟨h1, h2⟩ := hw.step hF hs hc hx
    obtain ⟨h3, h4⟩ := VRr.good (xs := xs) (s := bh s x) (w := tk w x) hF (hs.step hF hc hx) h2 hr
    refine ⟨?_, h4⟩
    show (canC w x && goodGo (tk w x) xs) = true
    rw [h1, h3]
    rfl
theorem VR.good {F : Fc} (hF : F.Ok) {cs : List Crs} (h : VR F cs) : goodB cs = true ∧ WR (stt (none, []) cs) (wk w0 cs) := by
  obtain ⟨n, xs, rfl, hn, hr⟩ := h
  have hw : WR (some 0, []) (tk w0 (.start n)) := ⟨rfl, (fun z => nomatch z), (fun c z => by injection z with z; subst z; exact ⟨rfl, rfl⟩)⟩
  obtain ⟨h1, h2⟩ := VRr.good (xs := xs) hF (SOk.init hF) hw hr
  refine ⟨?_, h2⟩
  show (true && (canC w0 (.start n) && goodGo (tk w0 (.start n)) xs)) = true
  have e : canC w0 (.start n) = true := canF_of (fs := [numF]) rfl rfl (by show (okF numF n && true) = true; rw [okF_num hn]; rfl)
  rw [e, h1]
  rfl
/-- what comes behind the begin of a row is no row -/
theorem VR.tail_bad {F : Fc} {cs : List Crs} (h : VR F cs) : goodB cs.tail = false := by
  obtain ⟨n, xs, rfl, hn, hr⟩ := h
  show goodB xs = false
  cases xs with
  | nil => rfl
  | cons x xs =>
    obtain ⟨⟨c, hc, hx⟩, _⟩ := hr
    show (true && (canC w0 x && _)) = false
    have e : canC w0 x = false := by
      cases x with
      | start n => exact hx.elim
      | call a b d n => rfl
      | back a b n => rfl
      | deep a b d n => rfl
      | done n => rfl
      | fin a => rfl
    rw [e]
    rfl
end OH
end
section
set_option Elab.async false
set_option linter.all false
set_option maxRecDepth 100000
set_option maxHeartbeats 8000000
/-! Good faces. -/
namespace OH
open PySem PySem.Spec PyProof.Rows L2
structure FcAt (H : Hp) (a : Addr) (F : Fc) : Prop where
  ex : ∃ (wt dt : Addr) (wps : List Addr), H a = some (.tup [.int F.dep, .ref wt, .ref dt]) ∧ H wt = some (.tup (wps.map V.ref)) ∧ H dt = some (.tup (F.dor.map V.int)) ∧ wps.length = F.R ∧
    ∀ (i : Nat) (q : Addr), wps[i]? = some q → ∃ ps : List Addr, H q = some (.tup (ps.map V.ref)) ∧ PairsAt H ps (F.ws i)
  ok : F.Ok
theorem FcAt.mono {H H' : Hp} {a : Addr} {F : Fc} (h : FcAt H a F) (s : ∀ q xs, H q = some (.tup xs) → H' q = some (.tup xs)) : FcAt H' a F := by
  obtain ⟨⟨wt, dt, wps, h1, h2, h3, h4, h5⟩, ok⟩ := h
  refine ⟨⟨wt, dt, wps, s _ _ h1, s _ _ h2, s _ _ h3, h4, fun i q e => ?_⟩, ok⟩
  obtain ⟨ps, p1, p2⟩ := h5 i q e
  exact ⟨ps, s _ _ p1, p2.mono fun _ _ z => s _ _ z⟩
theorem FcAt.same {H H' : Hp} {a : Addr} {F : Fc} (h : FcAt H a F) (s : Same H H') : FcAt H' a F := h.mono fun q xs e => s _ _ e
def spGoodF : Sp := fun vs H Q _ => ∃ (a : Addr) (F : Fc), vs = [.ref a] ∧ FcAt H a F ∧ ∀ H', Same H H' → Q (.bl true) H'
def spNeedF : Sp := fun vs H Q _ => ∃ (a : Addr) (F : Fc), vs = [.ref a] ∧ FcAt H a F ∧ ∀ H', Same H H' → Q .non H'
theorem all_trueR (n : Nat) : (List.replicate n true).all id = true := by
  rw [List.all_eq_true]
  intro y hy
  rw [List.eq_of_mem_replicate hy]
  rfl
section
variable {P : Program} {w : World} {K : PySem.W.Frag} {mg : Str → Option Value} {base : Heap}
abbrev nGF : List Str := ["value", "wires", "doors", "many", "room", "one"]
end
end OH
end
section
set_option Elab.async false
set_option linter.all false
set_option maxRecDepth 100000
set_option maxHeartbeats 8000000
/-! What the law asks of a crossing. -/
namespace OH
open PySem PySem.Spec PyProof.Rows L2
theorem op_notInDT {X : Cx} (hu : X.A.units + 65 < cLine) : OpR X (compareOp .NotIn) (fun x y H Q => ∃ d ds, Dp X.K H x d ∧ Dp X.K H y (.tuple ds) ∧ SeqAt.shaped d = true ∧ SeqAt.shaped (.list ds) = true ∧ Q (.bl (!ds.any fun z => PyData.eqv z d)) H) := by
  intro pins s σ H x y v u Q I rx ry h
  obtain ⟨d, ds, hd, he, sd, se, q⟩ := h
  obtain ⟨as, r1⟩ := Dp.reads I d x v hd rx
  obtain ⟨bs, r2⟩ := Dp.reads I (.tuple ds) y u he ry
  exact SeqAt.notIn_tuple_reads r2 r1 (SeqAt.canLay_of_shaped se) (SeqAt.canLay_of_shaped sd) (room_in_shaped sd hu) ⟨.bl (!ds.any fun y => y.eqv d), H, I, rfl, q⟩
end OH
end
section
set_option Elab.async false
set_option linter.all false
set_option maxRecDepth 100000
set_option maxHeartbeats 8000000
/-! Rows that fit. -/
namespace OH
open PySem PySem.Spec PyProof.Rows L2
theorem VRr.at {F : Fc} (hF : F.Ok) : ∀ {xs : List Crs} {s : Rs} {j : Nat}, SOk F s → VRr F s xs → j < xs.length → ∃ c x, xs[j]? = some x ∧ (stt s (xs.take j)).1 = some c ∧ Nx F c (stt s (xs.take j)).2 x ∧ SOk F (stt s (xs.take j))
  | [], _, j, _, _, h => absurd h (Nat.not_lt_zero j)
  | x :: xs, s, 0, hs, ⟨⟨c, hc, hx⟩, _⟩, _ => ⟨c, x, rfl, hc, hx, hs⟩
  | x :: xs, s, j + 1, hs, ⟨⟨c, hc, hx⟩, hr⟩, h => VRr.at (xs := xs) (s := bh s x) (j := j) hF (hs.step hF hc hx) hr (Nat.lt_of_succ_lt_succ h)
theorem VR.at {F : Fc} (hF : F.Ok) {cs : List Crs} (h : VR F cs) {i : Nat} (hi : i < cs.length) : (i = 0 ∧ ∃ n, cs[i]? = some (.start n) ∧ Num n) ∨
    (∃ c x, cs[i]? = some x ∧ (stt (none, []) (cs.take i)).1 = some c ∧ Nx F c (stt (none, []) (cs.take i)).2 x ∧ SOk F (stt (none, []) (cs.take i))) := by
  obtain ⟨n, xs, rfl, hn, hr⟩ := h
  cases i with
  | zero => exact .inl ⟨rfl, n, rfl, hn⟩
  | succ j => exact .inr (VRr.at (xs := xs) (s := (some 0, [])) (j := j) hF (SOk.init hF) hr (Nat.lt_of_succ_lt_succ hi))
def spFits : Sp := fun vs H Q _ => ∃ (l a : Addr) (F : Fc) (cs : List Crs), vs = [.ref l, .ref a] ∧ RwAt H l cs ∧ FcAt H a F ∧ VR F cs ∧ cs.length ≤ 1000 ∧ ∀ H', Same H H' → Q (.bl true) H'
section
variable {P : Program} {w : World} {K : PySem.W.Frag} {mg : Str → Option Value} {base : Heap}
abbrev nFits : List Str := ["row", "face", "depth", "wires", "_", "many", "crossing", "word"]
end
end OH
end
section
set_option Elab.async false
set_option linter.all false
set_option maxRecDepth 100000
set_option maxHeartbeats 8000000
/-! The views in a row. -/
namespace OH
open PySem PySem.Spec PyProof.Rows L2
/-- a list of items at l -/
def VwAt (K : PySem.W.Frag) (H : Hp) (l : Addr) (v : List It) : Prop := ∃ ps : List Addr, H l = some (.lst (ps.map V.ref)) ∧ AllQ K H It.vs ps v
theorem VwAt.same {K : PySem.W.Frag} {H H' : Hp} {l : Addr} {v : List It} (h : VwAt K H l v) (s : Same H H') : VwAt K H' l v := by
  obtain ⟨ps, h1, h2⟩ := h
  exact ⟨ps, s _ _ h1, h2.same s⟩
/-- so many lists of items -/
structure VsAt (K : PySem.W.Frag) (H : Hp) (D : Addr) (vl : List Addr) (g : Nat → List It) : Prop where
  hd : H D = some (.lst (vl.map V.ref))
  nd : vl.Nodup
  dn : D ∉ vl
  vw : ∀ (r : Nat) (q : Addr), vl[r]? = some q → VwAt K H q (g r)
theorem AllQ.mono {α : Type} {K : PySem.W.Frag} {H H' : Hp} {f : α → List V} {ps : List Addr} {xs : List α} (h : AllQ K H f ps xs) (s : ∀ q zs, SqT K H q zs → SqT K H' q zs) : AllQ K H' f ps xs := by
  induction h with
  | nil => exact .nil
  | cons a _ ih => exact .cons (s _ _ a) ih
theorem AllQ.app {α : Type} {K : PySem.W.Frag} {H : Hp} {f : α → List V} {ps : List Addr} {xs : List α} {t : Addr} {x : α} (h : AllQ K H f ps xs) (ht : SqT K H t (f x)) : AllQ K H f (ps ++ [t]) (xs ++ [x]) := by
  induction h with
  | nil => exact .cons ht .nil
  | cons a _ ih => exact .cons a ih
/-- where a list changes, tuples stay -/
theorem _root_.L2.SqT.upl {K : PySem.W.Frag} {H : Hp} {q a : Addr} {xs ys zs : List V} (h : SqT K H a xs) (e : H q = some (.lst ys)) : SqT K (upd H q (.lst zs)) a xs := by
  rcases h with h | h
  · refine .inl ?_
    rcases h with h | ⟨o, h⟩
    · exact .inl ((upd_ne (ne_of h e (fun z => nomatch z))).trans h)
    · exact .inr ⟨o, (upd_ne (ne_of h e (fun z => nomatch z))).trans h⟩
  · exact .inr h
theorem VsAt.at_ {K : PySem.W.Frag} {H : Hp} {D : Addr} {vl : List Addr} {g : Nat → List It} (Y : VsAt K H D vl g) {a : Int} (h0 : 0 ≤ a) (h1 : a < (vl.length : Int)) : ∃ (q : Addr) (ps : List Addr), vl[a.toNat]? = some q ∧ atI (vl.map V.ref) a = some (.ref q) ∧ H q = some (.lst (ps.map V.ref)) ∧ ps.length = (g a.toNat).length ∧ q ∈ vl := by
  obtain ⟨q, hq⟩ : ∃ q, vl[a.toNat]? = some q := ⟨_, List.getElem?_eq_getElem (by omega)⟩
  obtain ⟨ps, p1, p2⟩ := Y.vw _ _ hq
  refine ⟨q, ps, hq, ?_, p1, p2.len, List.mem_of_getElem? hq⟩
  have := atI_nat (xs := vl.map V.ref) (j := a.toNat) (v := .ref q) (by rw [List.getElem?_map, hq]; rfl)
  rw [Int.toNat_of_nonneg h0] at this
  exact this
theorem VsAt.same {K : PySem.W.Frag} {H H' : Hp} {D : Addr} {vl : List Addr} {g : Nat → List It} (Y : VsAt K H D vl g) (s : Same H H') : VsAt K H' D vl g := ⟨s _ _ Y.hd, Y.nd, Y.dn, fun r q e => (Y.vw r q e).same s⟩
theorem VsAt.congr {K : PySem.W.Frag} {H : Hp} {D : Addr} {vl : List Addr} {g g' : Nat → List It} (Y : VsAt K H D vl g) (e : ∀ r, r < vl.length → g r = g' r) : VsAt K H D vl g' := ⟨Y.hd, Y.nd, Y.dn, fun r q h => by rw [← e r (List.getElem?_eq_some_iff.mp h).1]; exact Y.vw r q h⟩
theorem VsAt.add {K : PySem.W.Frag} {H : Hp} {D : Addr} {vl : List Addr} {g : Nat → List It} (Y : VsAt K H D vl g) {k : Nat} {q t : Addr} {ps : List Addr} {it : It} (hq : vl[k]? = some q) (hp : H q = some (.lst (ps.map V.ref))) (ht : SqT K H t it.vs) :
    VsAt K (upd H q (.lst (ps.map V.ref ++ [.ref t]))) D vl (fun j => g j ++ if j = k then [it] else []) := by
  refine ⟨(upd_ne (fun z => Y.dn (by rw [z]; exact List.mem_of_getElem? hq))).trans Y.hd, Y.nd, Y.dn, fun r q' h => ?_⟩
  by_cases e : r = k
  · subst e
    rw [hq] at h
    cases h
    obtain ⟨ps', p1, p2⟩ := Y.vw _ _ hq
    rw [hp] at p1
    have e2 : ps = ps' := by
      have := HO.lst.inj (Option.some.inj p1)
      exact List.map_inj_right (fun x y z => V.ref.inj z) |>.mp this
    subst e2
    show VwAt K _ q (g r ++ if r = r then [it] else [])
    rw [if_pos rfl]
    refine ⟨ps ++ [t], by rw [upd_same, List.map_append]; rfl, (p2.mono fun a zs z => z.upl hp).app (ht.upl hp)⟩
  · show VwAt K _ q' (g r ++ if r = k then [it] else [])
    rw [if_neg e, List.append_nil]
    have nq : q' ≠ q := fun z => by
      subst z
      have h1 := (List.getElem?_eq_some_iff.mp h)
      have h2 := (List.getElem?_eq_some_iff.mp hq)
      exact e ((List.getElem?_inj h1.1 Y.nd).mp (h.trans hq.symm))
    obtain ⟨ps', p1, p2⟩ := Y.vw _ _ h
    exact ⟨ps', (upd_ne nq).trans p1, p2.mono fun a zs z => z.upl hp⟩
theorem sel_ {α : Type} (j : Nat) {a : Int} (h : 0 ≤ a) (xs : List α) : (if j = a.toNat then xs else []) = if (j : Int) = a then xs else [] := by
  by_cases z : j = a.toNat
  · rw [if_pos z, if_pos (by omega)]
  · rw [if_neg z, if_neg (by omega)]
theorem vw_bound (r : Int) : ∀ cs : List Crs, (OH.vw r cs).length ≤ 2 * cs.length
  | [] => Nat.le_refl _
  | x :: xs => by
    have h := vw_bound r xs
    rw [vw_cons, List.length_append, List.length_cons]
    have : (shown r x).length ≤ 2 := by
      cases x <;> simp only [shown] <;> (repeat' split) <;> simp
    omega
/-- the rooms of a crossing that may come are the face's -/
def rmOk (F : Fc) : Crs → Prop
  | .start _ => False
  | .call a b _ _ | .back a b _ => (0 ≤ a ∧ a < (F.R : Int)) ∧ (0 ≤ b ∧ b < (F.R : Int)) ∧ a ≠ b
  | .deep a _ _ _ | .fin a => 0 ≤ a ∧ a < (F.R : Int)
  | .done _ => True
theorem Nx.rooms {F : Fc} (hF : F.Ok) {s : Rs} (hs : SOk F s) {c : Int} (hc : s.1 = some c) {x : Crs} (hx : Nx F c s.2 x) : rmOk F x := by
  have ch := hs.ctl hc
  obtain ⟨c0, c1⟩ := ch.rng hF
  cases x with
  | start n => exact hx.elim
  | call a b d n =>
    obtain ⟨e, hw, _⟩ := hx
    subst e
    obtain ⟨w1, w2, w3, _⟩ := (hF.wi a.toNat (by omega)).2.2 _ hw
    have w1' : 0 ≤ b := w1
    have w2' : b < (F.R : Int) := w2
    have w3' : b ≠ (a.toNat : Int) := w3
    exact ⟨⟨c0, c1⟩, ⟨w1', w2'⟩, by omega⟩
  | back a b n =>
    obtain ⟨e, ⟨q, hq, hb⟩, _⟩ := hx
    subst e
    rcases ch.inv with ⟨e0, _⟩ | ⟨as, a', e0, h0, hn⟩
    · rw [e0] at hq
      cases hq
    · rw [e0, List.getLast?_concat] at hq
      cases hq
      have hb' : b = a' := hb
      subst hb'
      exact ⟨⟨c0, c1⟩, h0.rng hF, fun z => hn z.symm⟩
  | deep a b d n => obtain ⟨e, _⟩ := hx; subst e; exact ⟨c0, c1⟩
  | done n => trivial
  | fin a => have e : a = c := hx; subst e; exact ⟨c0, c1⟩
def spViewsIn (K : PySem.W.Frag) : Sp := fun vs H Q _ => ∃ (l : Addr) (F : Fc) (cs : List Crs), vs = [.ref l] ∧ RwAt H l cs ∧ F.Ok ∧ VR F cs ∧ cs.length ≤ 1000 ∧
  ∀ D vl H', Same H H' → H D = none → (∀ q ∈ vl, H q = none) → vl.length = 6 → VsAt K H' D vl (fun r => OH.vw (r : Int) cs) → Q (.ref D) H'
section
variable {P : Program} {w : World} {K : PySem.W.Frag} {mg : Str → Option Value} {base : Heap}
abbrev nViews : List Str := ["row", "views", "_", "crossing", "word", "asker", "asked", "door", "number", "giver"]
end
end OH
end
section
set_option Elab.async false
set_option linter.all false
set_option maxRecDepth 100000
set_option maxHeartbeats 4000000
/-! fits, view_of. -/
namespace OH
open PySem PySem.Spec PyProof.Rows L2
def spNRoom : Sp := fun vs H Q _ => ∃ (r m : Int), vs = [.int r, .int m] ∧ 0 ≤ r ∧ r < m ∧ m ≤ 1000 ∧ Q .non H
def spFits2 : Sp := fun vs H Q _ => ∃ (l a : Addr) (F : Fc) (cs : List Crs), vs = [.ref l, .ref a] ∧ RwAt H l cs ∧ FcAt H a F ∧ VR F cs ∧ cs.length ≤ 1000 ∧ ∀ H', Same H H' → Q (.bl true) H'
def spViewOf (K : PySem.W.Frag) : Sp := fun vs H Q _ => ∃ (l : Addr) (r : Int) (F : Fc) (cs : List Crs), vs = [.ref l, .int r] ∧ RwAt H l cs ∧ F.Ok ∧ VR F cs ∧ cs.length ≤ 1000 ∧ 0 ≤ r ∧ r < 6 ∧
  ∀ q H', Same H H' → H q = none → VwAt K H' q (OH.vw r cs) → Q (.ref q) H'
section
variable {P : Program} {w : World} {K : PySem.W.Frag} {mg : Str → Option Value} {base : Heap}
end
end OH
end
section
set_option Elab.async false
set_option linter.all false
set_option maxRecDepth 100000
set_option maxHeartbeats 1000000
/-! Views of rows are good views. -/
namespace OH
open PySem PySem.Spec PyProof.Rows L2
def isEv : It → Prop
  | .inn d n => (0 ≤ d ∧ d < 6) ∧ Num n
  | .got n => Num n
  | _ => False
def isAc : It → Prop
  | .calls a d n => (0 ≤ a ∧ a < 6) ∧ (0 ≤ d ∧ d < 6) ∧ Num n
  | .gives n => Num n
  | .ends => True
  | _ => False
def dW : It → Int
  | .calls _ _ _ => 1
  | .got _ => -1
  | _ => 0
def wt (its : List It) : Int := (its.map dW).sum
def kindAt (i : Nat) (it : It) : Prop := if i % 2 = 0 then isEv it else isAc it
structure GV (its : List It) : Prop where
  al : ∀ i it, its[i]? = some it → kindAt i it
  en : ∀ i, its[i]? = some It.ends → i + 1 = its.length
  wt : ∀ k, 0 ≤ wt (its.take k)
theorem GV.le {xs ys : List It} (h : GV ys) (p : xs <+: ys) : GV xs := by
  obtain ⟨zs, rfl⟩ := p
  have g : ∀ i it, xs[i]? = some it → (xs ++ zs)[i]? = some it := fun i it e => by
    rw [List.getElem?_append_left (List.getElem?_eq_some_iff.mp e).1]
    exact e
  refine ⟨fun i it e => h.al i it (g i it e), fun i e => ?_, fun k => ?_⟩
  · have h1 := h.en i (g i _ e)
    have h2 := (List.getElem?_eq_some_iff.mp e).1
    rw [List.length_append] at h1
    omega
  · by_cases q : k ≤ xs.length
    · have := h.wt k
      rwa [List.take_append_of_le_length q] at this
    · have := h.wt xs.length
      rw [List.take_append_of_le_length (Nat.le_refl _)] at this
      rw [List.take_of_length_le (by omega : xs.length ≤ k)]
      rwa [List.take_length] at this
theorem wt_app (xs ys : List It) : OH.wt (xs ++ ys) = OH.wt xs + OH.wt ys := by
  unfold OH.wt
  rw [List.map_append, List.sum_append]
/-- one more item -/
theorem GV.snoc {xs : List It} {it : It} (h : GV xs) (ne : It.ends ∉ xs) (k : kindAt xs.length it) (w : 0 ≤ OH.wt xs + dW it) : GV (xs ++ [it]) := by
  refine ⟨fun i x e => ?_, fun i e => ?_, fun j => ?_⟩
  · rcases Nat.lt_or_ge i xs.length with q | q
    · rw [List.getElem?_append_left q] at e
      exact h.al i x e
    · rw [List.getElem?_append_right q] at e
      have e0 : i = xs.length := by
        have := (List.getElem?_eq_some_iff.mp e).1
        rw [List.length_singleton] at this
        omega
      subst e0
      rw [Nat.sub_self] at e
      cases e
      exact k
  · rcases Nat.lt_or_ge i xs.length with q | q
    · rw [List.getElem?_append_left q] at e
      exact absurd (List.mem_of_getElem? e) ne
    · have := (List.getElem?_eq_some_iff.mp e).1
      rw [List.length_append, List.length_singleton] at this ⊢
      omega
  · by_cases q : j ≤ xs.length
    · rw [List.take_append_of_le_length q]
      exact h.wt j
    · rw [List.take_of_length_le (by rw [List.length_append, List.length_singleton]; omega), wt_app]
      show 0 ≤ OH.wt xs + (dW it + 0)
      omega
def cntA (r : Int) (asks : List (Int × Int)) : Int := ((asks.filter fun p => decide (p.1 = r)).length : Nat)
theorem cntA_snoc (r : Int) (as : List (Int × Int)) (p : Int × Int) : cntA r (as ++ [p]) = cntA r as + if p.1 = r then 1 else 0 := by
  unfold cntA
  rw [List.filter_append, List.length_append]
  by_cases e : p.1 = r
  · rw [if_pos e, List.filter_cons_of_pos (by simpa using e)]
    show ((_ + 1 : Nat) : Int) = _
    omega
  · rw [if_neg e, List.filter_cons_of_neg (by simpa using e)]
    show ((_ + 0 : Nat) : Int) = _
    omega
/-- the view of room r behind a part of a row that goes on -/
structure Vst (r c : Int) (asks : List (Int × Int)) (its : List It) : Prop where
  gv : GV its
  ne : It.ends ∉ its
  pa : its.length % 2 = if c = r then 1 else 0
  wt : OH.wt its = cntA r asks
theorem kind_ev {its : List It} {it : It} (h : its.length % 2 = 0) (e : isEv it) : kindAt its.length it := by
  unfold kindAt
  rw [if_pos h]
  exact e
theorem kind_ac {its : List It} {it : It} (h : its.length % 2 = 1) (e : isAc it) : kindAt its.length it := by
  unfold kindAt
  rw [if_neg (by omega)]
  exact e
theorem cntA_nn (r : Int) (as : List (Int × Int)) : 0 ≤ cntA r as := Int.natCast_nonneg _
theorem Vst.run {F : Fc} (hF : F.Ok) {r : Int} : ∀ {xs : List Crs} {s : Rs} {c : Int} {its : List It}, SOk F s → s.1 = some c → Vst r c s.2 its → VRr F s xs → GV (its ++ vw r xs)
  | [], _, _, its, _, _, v, _ => by
    show GV (its ++ [])
    rw [List.append_nil]
    exact v.gv
  | x :: xs, s, c, its, hs, hc, v, ⟨⟨c', hc', hx⟩, hr⟩ => by
    rw [hc] at hc'
    cases hc'
    have ch := hs.ctl hc
    obtain ⟨c0, c1⟩ := ch.rng hF
    have m6 := hF.m6
    have hs2 := hs.step hF hc hx
    rw [vw_cons, ← List.append_assoc]
    have nn := cntA_nn r s.2
    have vw0 := v.wt
    cases x with
    | start n => exact hx.elim
    | call a b d n =>
      obtain ⟨e, hw, hl, hn⟩ := hx
      subst e
      obtain ⟨b0, b5, bR, bc, d0, d5⟩ := wire_rng hF c0 c1 hw
      refine Vst.run (xs := xs) (s := bh s (.call a b d n)) (c := b) hF hs2 rfl ?_ hr
      show Vst r b (s.2 ++ [(a, b)]) (its ++ ((if r = a then [It.calls b d n] else []) ++ (if r = b then [It.inn d n] else [])))
      have pa := v.pa
      by_cases ea : a = r
      · subst ea
        rw [if_pos rfl, if_neg (fun z => bc z.symm), List.append_nil]
        rw [if_pos rfl] at pa
        refine ⟨v.gv.snoc v.ne (kind_ac pa ⟨⟨b0, by omega⟩, ⟨d0, by omega⟩, hn⟩) (by show 0 ≤ OH.wt its + 1; omega), fun z => (List.mem_append.mp z).elim v.ne (fun z => nomatch List.mem_singleton.mp z), ?_, ?_⟩
        · rw [if_neg bc, List.length_append, List.length_singleton]; omega
        · rw [wt_app, cntA_snoc, if_pos rfl, vw0]; rfl
      · rw [if_neg (fun z => ea z.symm), List.nil_append]
        rw [if_neg ea] at pa
        by_cases eb : r = b
        · subst eb
          rw [if_pos rfl]
          refine ⟨v.gv.snoc v.ne (kind_ev pa ⟨⟨d0, by omega⟩, hn⟩) (by show 0 ≤ OH.wt its + 0; omega), fun z => (List.mem_append.mp z).elim v.ne (fun z => nomatch List.mem_singleton.mp z), ?_, ?_⟩
          · rw [if_pos rfl, List.length_append, List.length_singleton]; omega
          · rw [wt_app, cntA_snoc, if_neg ea, vw0]; rfl
        · rw [if_neg eb, List.append_nil]
          refine ⟨v.gv, v.ne, by rw [if_neg (fun z => eb z.symm)]; exact pa, ?_⟩
          rw [cntA_snoc, if_neg ea, vw0, Int.add_zero]
    | back a b n =>
      obtain ⟨e, ⟨q, hq, hb⟩, hn⟩ := hx
      subst e
      have hq0 := hq
      rcases ch.inv with ⟨e0, _⟩ | ⟨as, a', e0, h0, hne⟩
      · rw [e0] at hq
        cases hq
      rw [e0, List.getLast?_concat] at hq
      cases hq
      have hb' : b = a' := hb
      subst hb'
      have dl : s.2.dropLast = as := by rw [e0, List.dropLast_concat]
      refine Vst.run (xs := xs) (s := bh s (.back a b n)) (c := b) hF hs2 rfl ?_ hr
      show Vst r b s.2.dropLast (its ++ ((if r = a then [It.gives n] else []) ++ (if r = b then [It.got n] else [])))
      have pa := v.pa
      rw [dl]
      rw [e0, cntA_snoc] at vw0
      have nna := cntA_nn r as
      by_cases ea : a = r
      · subst ea
        rw [if_pos rfl, if_neg (fun z => hne z.symm), List.append_nil]
        rw [if_pos rfl] at pa
        rw [if_neg hne] at vw0
        refine ⟨v.gv.snoc v.ne (kind_ac pa hn) (by show 0 ≤ OH.wt its + 0; omega), fun z => (List.mem_append.mp z).elim v.ne (fun z => nomatch List.mem_singleton.mp z), ?_, ?_⟩
        · rw [if_neg hne, List.length_append, List.length_singleton]; omega
        · rw [wt_app, vw0]; show _ + 0 + (0 + 0) = _; omega
      · rw [if_neg (fun z => ea z.symm), List.nil_append]
        rw [if_neg ea] at pa
        by_cases eb : r = b
        · subst eb
          rw [if_pos rfl]
          rw [if_pos rfl] at vw0
          refine ⟨v.gv.snoc v.ne (kind_ev pa hn) (by show 0 ≤ OH.wt its + -1; omega), fun z => (List.mem_append.mp z).elim v.ne (fun z => nomatch List.mem_singleton.mp z), ?_, ?_⟩
          · rw [if_pos rfl, List.length_append, List.length_singleton]; omega
          · rw [wt_app, vw0]; show _ + 1 + (-1 + 0) = _; omega
        · rw [if_neg eb, List.append_nil]
          rw [if_neg (fun z => eb z.symm)] at vw0
          exact ⟨v.gv, v.ne, by rw [if_neg (fun z => eb z.symm)]; exact pa, by rw [vw0, Int.add_zero]⟩
    | deep a b d n =>
      obtain ⟨e, hw, hl, hn⟩ := hx
      subst e
      obtain ⟨b0, b5, bR, bc, d0, d5⟩ := wire_rng hF c0 c1 hw
      have hxs : xs = [] := by
        cases xs with
        | nil => rfl
        | cons y ys => obtain ⟨⟨_, z, _⟩, _⟩ := hr; cases z
      subst hxs
      show GV ((its ++ if r = a then [It.calls b d n] else []) ++ [])
      rw [List.append_nil]
      have pa := v.pa
      by_cases ea : a = r
      · subst ea
        rw [if_pos rfl]
        rw [if_pos rfl] at pa
        exact v.gv.snoc v.ne (kind_ac pa ⟨⟨b0, by omega⟩, ⟨d0, by omega⟩, hn⟩) (by show 0 ≤ OH.wt its + 1; omega)
      · rw [if_neg (fun z => ea z.symm), List.append_nil]
        exact v.gv
    | done n =>
      obtain ⟨e, hn⟩ := hx
      have hxs : xs = [] := by
        cases xs with
        | nil => rfl
        | cons y ys => obtain ⟨⟨_, z, _⟩, _⟩ := hr; cases z
      subst hxs
      show GV ((its ++ if r = 0 then [It.gives n] else []) ++ [])
      rw [List.append_nil]
      have pa := v.pa
      have c00 : c = 0 := by
        rcases ch.inv with ⟨_, z⟩ | ⟨as, a', z, _⟩
        · exact z
        · rw [e] at z
          cases as <;> cases z
      by_cases ea : r = 0
      · subst ea
        rw [if_pos rfl]
        rw [if_pos c00] at pa
        exact v.gv.snoc v.ne (kind_ac pa hn) (by show 0 ≤ OH.wt its + 0; omega)
      · rw [if_neg ea, List.append_nil]
        exact v.gv
    | fin a =>
      have e : a = c := hx
      subst e
      have hxs : xs = [] := by
        cases xs with
        | nil => rfl
        | cons y ys => obtain ⟨⟨_, z, _⟩, _⟩ := hr; cases z
      subst hxs
      show GV ((its ++ if r = a then [It.ends] else []) ++ [])
      rw [List.append_nil]
      have pa := v.pa
      by_cases ea : a = r
      · subst ea
        rw [if_pos rfl]
        rw [if_pos rfl] at pa
        exact v.gv.snoc v.ne (kind_ac pa trivial) (by show 0 ≤ OH.wt its + 0; omega)
      · rw [if_neg (fun z => ea z.symm), List.append_nil]
        exact v.gv
theorem GV.nil : GV [] := ⟨fun i it e => absurd (List.mem_of_getElem? e) List.not_mem_nil, fun i e => absurd (List.mem_of_getElem? e) List.not_mem_nil, fun k => by rw [List.take_nil]; exact Int.le_refl 0⟩
theorem VR.gv {F : Fc} (hF : F.Ok) {cs : List Crs} (h : VR F cs) (r : Int) : GV (vw r cs) := by
  obtain ⟨n, xs, rfl, hn, hr⟩ := h
  rw [vw_cons]
  refine Vst.run (s := (some 0, [])) (c := 0) hF (SOk.init hF) rfl ?_ hr
  show Vst r 0 [] (if r = 0 then [It.inn 0 n] else [])
  by_cases e : r = 0
  · subst e
    rw [if_pos rfl]
    exact ⟨GV.nil.snoc List.not_mem_nil (kind_ev rfl ⟨⟨Int.le_refl 0, by decide⟩, hn⟩) (Int.le_refl 0), fun z => (nomatch List.mem_singleton.mp z), by rw [if_pos rfl]; rfl, rfl⟩
  · rw [if_neg e]
    exact ⟨GV.nil, List.not_mem_nil, by rw [if_neg (fun z => e z.symm)]; rfl, rfl⟩
end OH
end
section
set_option Elab.async false
set_option linter.all false
set_option maxRecDepth 100000
set_option maxHeartbeats 4000000
/-! Events and acts of views. -/
namespace OH
open PySem PySem.Spec PyProof.Rows L2
theorem _root_.L2.SqT.tyx {K : PySem.W.Frag} {H : Hp} {p : Addr} {xs : List V} (h : SqT K H p xs) : TyX K H (.ref p) (.type "tuple") := by
  rcases h with (h | ⟨o, h⟩) | ⟨o, its, n, h1, h2, _⟩
  · exact .base (.tup h)
  · exact .fTuple h
  · exact .kTuple h1 h2
/-- a list of items -/
def spItems (K : PySem.W.Frag) (Ok : It → Prop) : Sp := fun vs H Q _ => ∃ (l : Addr) (its : List It), vs = [.ref l] ∧ VwAt K H l its ∧ (∀ it ∈ its, Ok it) ∧ its.length ≤ 10000 ∧ ∀ H', Same H H' → Q (.bl true) H'
section
variable {P : Program} {w : World} {K : PySem.W.Frag} {mg : Str → Option Value} {base : Heap}
abbrev nEv : List Str := ["values", "value", "many", "word", "number", "door"]
abbrev nAc : List Str := ["values", "value", "many", "word", "number", "door", "room"]
end
end OH
end
section
set_option Elab.async false
set_option linter.all false
set_option maxRecDepth 100000
set_option maxHeartbeats 1000000
/-! Items and crossings as data. -/
namespace OH
open PySem PySem.Spec PyProof.Rows L2
def tD (w : Str) (is : List Int) : PyData := .tuple (.str w :: is.map .int)
theorem eqvAll_int : ∀ xs ys : List Int, PyData.eqvAll (xs.map .int) (ys.map .int) = decide (xs = ys)
  | [], [] => rfl
  | [], _ :: _ => rfl
  | _ :: _, [] => rfl
  | x :: xs, y :: ys => by
    show ((x == y) && PyData.eqvAll (xs.map .int) (ys.map .int)) = _
    rw [eqvAll_int xs ys]
    by_cases e : x = y
    · subst e
      by_cases e2 : xs = ys
      · subst e2; simp
      · simp [e2]
    · simp [e]
theorem tD_eqv (w v : Str) (is js : List Int) : PyData.eqv (tD w is) (tD v js) = decide (w = v ∧ is = js) := by
  show ((w == v) && PyData.eqvAll (is.map .int) (js.map .int)) = _
  rw [eqvAll_int]
  by_cases e : w = v
  · subst e; simp
  · simp [e]
theorem intsDp {K : PySem.W.Frag} {H : Hp} : ∀ is : List Int, DpAll K H (is.map V.int) (is.map .int)
  | [] => .nil
  | i :: is => .cons (.int i) (intsDp is)
theorem tD_dp {K : PySem.W.Frag} {H : Hp} {p : Addr} {w : Str} {is : List Int} (h : SqT K H p (.str w :: is.map V.int)) : Dp K H (.ref p) (tD w is) := .tup h (.cons (.str w) (intsDp is))
theorem ints_lay : ∀ is : List Int, PyData.canLayAll0 (is.map .int) = true ∧ PyData.depthAll (is.map .int) = 0
  | [] => ⟨rfl, rfl⟩
  | i :: is => by
    obtain ⟨h1, h2⟩ := ints_lay is
    refine ⟨?_, ?_⟩
    · show (true && PyData.canLayAll0 (is.map .int)) = true
      rw [h1]
      rfl
    · show max 0 (PyData.depthAll (is.map .int)) = 0
      rw [h2]
      rfl
theorem tD_lay {w : Str} (hw : PyData.canLay0 (.str w) = true) (is : List Int) : PyData.canLay0 (tD w is) = true ∧ PyData.depth (tD w is) = 1 := by
  obtain ⟨h1, h2⟩ := ints_lay is
  refine ⟨?_, ?_⟩
  · show (PyData.canLay0 (.str w) && PyData.canLayAll0 (is.map .int)) = true
    rw [h1, hw]
    rfl
  · show max 0 (PyData.depthAll (is.map .int)) + 1 = 1
    rw [h2]
    rfl
theorem shaped_tD {w : Str} (hw : PyData.canLay0 (.str w) = true) (is : List Int) : SeqAt.shaped (tD w is) = true := by
  obtain ⟨h1, h2⟩ := tD_lay hw is
  show (PyData.canLay0 (tD w is) && decide (PyData.depth (tD w is) ≤ 64)) = true
  rw [h1, h2]
  rfl
theorem shaped_tDs {α : Type} (f : α → Str) (g : α → List Int) (hw : ∀ x, PyData.canLay0 (.str (f x)) = true) (xs : List α) : SeqAt.shaped (.list (xs.map fun x => tD (f x) (g x))) = true := by
  have h : PyData.canLayAll0 (xs.map fun x => tD (f x) (g x)) = true ∧ PyData.depthAll (xs.map fun x => tD (f x) (g x)) ≤ 1 := by
    induction xs with
    | nil => exact ⟨rfl, Nat.zero_le _⟩
    | cons x xs ih =>
      obtain ⟨h1, h2⟩ := tD_lay (hw x) (g x)
      refine ⟨?_, ?_⟩
      · show (PyData.canLay0 (tD (f x) (g x)) && PyData.canLayAll0 _) = true
        rw [h1, ih.1]
        rfl
      · show max (PyData.depth (tD (f x) (g x))) (PyData.depthAll _) ≤ 1
        rw [h2]
        exact Nat.max_le.mpr ⟨Nat.le_refl 1, ih.2⟩
  show (PyData.canLayAll0 _ && decide (PyData.depthAll _ + 1 ≤ 64)) = true
  rw [h.1, decide_eq_true (by have := h.2; omega)]
  rfl
theorem eqvAll_map {α : Type} [DecidableEq α] {d : α → PyData} (h : ∀ x y, PyData.eqv (d x) (d y) = decide (x = y)) : ∀ xs ys : List α, PyData.eqvAll (xs.map d) (ys.map d) = decide (xs = ys)
  | [], [] => rfl
  | [], _ :: _ => rfl
  | _ :: _, [] => rfl
  | x :: xs, y :: ys => by
    show (PyData.eqv (d x) (d y) && PyData.eqvAll (xs.map d) (ys.map d)) = _
    rw [eqvAll_map h xs ys, h]
    by_cases e : x = y
    · subst e
      by_cases e2 : xs = ys
      · subst e2; simp
      · simp [e2]
    · simp [e]
theorem any_map {α : Type} [DecidableEq α] {d : α → PyData} (h : ∀ x y, PyData.eqv (d x) (d y) = decide (x = y)) (xs : List α) (y : α) : ((xs.map d).any fun z => PyData.eqv z (d y)) = decide (y ∈ xs) := by
  induction xs with
  | nil => rfl
  | cons x xs ih =>
    rw [List.map_cons, List.any_cons, ih, h]
    by_cases e : x = y
    · subst e; simp
    · have e2 : ¬ y = x := fun z => e z.symm
      simp [e, e2]
def It.w : It → Str
  | .inn _ _ => "in"
  | .got _ => "got"
  | .calls _ _ _ => "calls"
  | .gives _ => "gives"
  | .ends => "ends"
def It.ns : It → List Int
  | .inn d n => [d, n]
  | .got n => [n]
  | .calls a d n => [a, d, n]
  | .gives n => [n]
  | .ends => []
def It.d (x : It) : PyData := tD x.w x.ns
theorem It.vs_eq (x : It) : x.vs = .str x.w :: x.ns.map V.int := by cases x <;> rfl
theorem It.w_inj {x y : It} : (x.w = y.w ∧ x.ns = y.ns) ↔ x = y := by
  constructor
  · rintro ⟨h1, h2⟩
    cases x <;> cases y <;> first | (simp only [It.w] at h1; exact absurd h1 (by decide +kernel)) | (simp only [It.ns, List.cons.injEq, and_true] at h2; simp_all)
  · rintro rfl
    exact ⟨rfl, rfl⟩
theorem It.eqv (x y : It) : PyData.eqv x.d y.d = decide (x = y) := by
  unfold It.d
  rw [tD_eqv]
  exact decide_eq_decide.mpr It.w_inj
theorem It.dp {K : PySem.W.Frag} {H : Hp} {p : Addr} {x : It} (h : SqT K H p x.vs) : Dp K H (.ref p) x.d := tD_dp (by rw [← It.vs_eq]; exact h)
theorem AllQ.itdp {K : PySem.W.Frag} {H : Hp} {ps : List Addr} {xs : List It} (h : AllQ K H It.vs ps xs) : DpAll K H (ps.map V.ref) (xs.map It.d) := by
  induction h with
  | nil => exact .nil
  | cons e _ ih => exact .cons (It.dp e) ih
theorem shaped_its (xs : List It) : SeqAt.shaped (.list (xs.map It.d)) = true := shaped_tDs It.w It.ns (fun x => by cases x <;> (simp only [It.w]; decide +kernel)) xs
theorem shaped_it (x : It) : SeqAt.shaped x.d = true := shaped_tD (by cases x <;> (simp only [It.w]; decide +kernel)) _
def Crs.d (x : Crs) : PyData := tD x.wd x.is
theorem Crs.w_inj {x y : Crs} : (x.wd = y.wd ∧ x.is = y.is) ↔ x = y := by
  constructor
  · rintro ⟨h1, h2⟩
    cases x <;> cases y <;> first | (simp only [Crs.wd] at h1; exact absurd h1 (by decide +kernel)) | (simp only [Crs.is, List.cons.injEq, and_true] at h2; simp_all)
  · rintro rfl
    exact ⟨rfl, rfl⟩
theorem Crs.eqv (x y : Crs) : PyData.eqv x.d y.d = decide (x = y) := by
  unfold Crs.d
  rw [tD_eqv]
  exact decide_eq_decide.mpr Crs.w_inj
theorem Crs.dp {K : PySem.W.Frag} {H : Hp} {p : Addr} {x : Crs} (h : SqT K H p x.vs) : Dp K H (.ref p) x.d := tD_dp (by rw [← Crs.vs_eq]; exact h)
theorem AllAt.rowdp {K : PySem.W.Frag} {H : Hp} {ps : List Addr} {row : List Crs} (h : AllAt H Crs.vs ps row) : DpAll K H (ps.map V.ref) (row.map Crs.d) := by
  induction h with
  | nil => exact .nil
  | cons e _ ih => exact .cons (Crs.dp (SqT.of e)) ih
theorem shaped_row (xs : List Crs) : SeqAt.shaped (.list (xs.map Crs.d)) = true := shaped_tDs Crs.wd Crs.is (fun x => by cases x <;> (simp only [Crs.wd]; decide +kernel)) xs
/-- rows, views compared -/
theorem row_eqv (xs ys : List Crs) : PyData.eqv (.list (xs.map Crs.d)) (.list (ys.map Crs.d)) = decide (xs = ys) := eqvAll_map Crs.eqv xs ys
theorem its_eqv (xs ys : List It) : PyData.eqv (.list (xs.map It.d)) (.list (ys.map It.d)) = decide (xs = ys) := eqvAll_map It.eqv xs ys
end OH
end
section
set_option Elab.async false
set_option linter.all false
set_option maxRecDepth 100000
set_option maxHeartbeats 4000000
/-! An own error whose __init__ says super().__init__(..) and then sets its fields. -/
namespace OH
open PySem PySem.Spec PyProof.Rows L2
/-- the context of such an __init__, in which the class stands as __class__ -/
def cxS (CX : CXT) (P : Program) (w : World) (K : PySem.W.Frag) (mg : Str → Option Value) (base : Heap) (N : List Str) (qual : Str) (scope : Scope) (f : Addr) (cd : Value) (cc : Addr) (A : Around) (outer : List Env) (s : Shared) (H : Hp) (E : XK) : Cx where
  prog := P
  w := w
  K := K
  mg := mg
  base := base
  A := A.deeper (PySem.W.ksEnv qual scope s.heap.objs.size f cd cc)
  N := N
  s_0 := s
  H_0 := H
  env := PySem.W.ksEnv qual scope s.heap.objs.size f cd cc
  outer := outer
  stack := PySem.W.ksEnv qual scope s.heap.objs.size f cd cc :: outer
  ex := []
  calm := true
  fn := fun _ => false
  pn := []
  xe := fun e s' => wpAny (model P w) (A.deeper (PySem.W.ksEnv qual scope s.heap.objs.size f cd cc)) (leaving (PySem.W.ksEnv qual scope s.heap.objs.size f cd cc) e) (fun _ s'' => CX outer H s E e s'') (fun e' s'' => CX outer H s E e' s'') s'
structure ScopeS (N ps : List Str) (sc : Scope) : Prop where
  kind : sc.kind = .function
  co : sc.isCoroutine = false
  gen : sc.isGenerator = false
  nd : N.Nodup
  pre : N.take ps.length = ps
  par : ∀ x ∈ ps, sc.names.lookup x = some .local
  nocell : ∀ y ∈ sc.names, y.2 ≠ .cell
  free : ∀ y ∈ sc.names, y.2 = .free → y.1 = "__class__"
  sup : sc.names.lookup ("super" : Str) = some .globalImplicit
  cls : sc.names.lookup ("__class__" : Str) = some .free
theorem rev_lookup : ∀ {ps : List Str} {us : List Value} {i : Nat} {y : Str} {u : Value}, ps.Nodup → ps[i]? = some y → us[i]? = some u → (ps.zip us).reverse.lookup y = some u
  | [], _, _, _, _, _, h, _ => by simp at h
  | _ :: _, [], _, _, _, _, _, h => by simp at h
  | p :: ps, v :: us, 0, y, u, nd, h1, h2 => by
    simp at h1 h2
    subst h1
    subst h2
    rw [List.zip_cons_cons, List.reverse_cons, List.lookup_append]
    have e : (ps.zip us).reverse.lookup p = none := by
      refine List.lookup_eq_none_iff.mpr fun q hq => ?_
      have hq' := List.mem_reverse.mp hq
      have hm : q.1 ∈ ps := by
        obtain ⟨q1, q2⟩ := q
        exact (List.of_mem_zip hq').1
      have ne : p ≠ q.1 := fun z => (List.nodup_cons.mp nd).1 (z ▸ hm)
      simpa using ne
    rw [e]
    simp [List.lookup]
  | p :: ps, v :: us, i + 1, y, u, nd, h1, h2 => by
    rw [List.zip_cons_cons, List.reverse_cons, List.lookup_append, rev_lookup (i := i) (List.nodup_cons.mp nd).2 (by simpa using h1) (by simpa using h2)]
    rfl
section
variable {CX : CXT} {P : Program} {w : World} {K : PySem.W.Frag} {mg : Str → Option Value} {base : Heap} {N ps : List Str} {qual : Str} {scope : Scope} {f cc : Addr} {cd : Value} {A : Around} {outer : List Env} {s : Shared} {H : Hp} {E : XK} {us : List Value} {vs : List V}
theorem invS_start {h₁ : Heap} {t : Nat} (S : ScopeS N ps scope) (hd : A.handled = none) (e0 : Env0 P w K mg base A outer s H) (hl : vs.length = ps.length) (r : Vals vs us)
    (hcc : ∃ o v, base.get? cc = some o ∧ o.data = .cell v) (hns : h₁.Ns s.heap.objs.size (fun y => (ps.zip us).reverse.lookup y)) (hk : ∀ b o, s.heap.get? b = some o → h₁.get? b = some o) :
    Inv (cxS CX P w K mg base N qual scope f cd cc A outer s H E) [] (L2.start N vs) H { s with heap := h₁, toks := t } := by
  have hpl : ps.length ≤ N.length := by have := congrArg List.length S.pre; rw [List.length_take] at this; omega
  have noA : ∀ b : Addr, b ∉ (cxS CX P w K mg base N qual scope f cd cc A outer s H E).ex := fun b z => absurd (show b ∈ ([] : List Addr) from z) (by simp)
  have one : ∀ {x : Str} {c : Addr}, (cxS CX P w K mg base N qual scope f cd cc A outer s H E).env.cells.lookup x = some c → x = "__class__" ∧ c = cc := fun {x c} h => by
    have h' : List.lookup x [(("__class__" : Str), cc)] = some c := h
    unfold List.lookup at h'
    split at h'
    · rename_i z
      exact ⟨by simpa using z, (Option.some.inj h').symm⟩
    · cases h'
  obtain ⟨oc, vc, hoc, hdc⟩ := hcc
  obtain ⟨hcs, hcH⟩ := e0.bs cc oc hoc
  have cellOk : ∀ x c, (cxS CX P w K mg base N qual scope f cd cc A outer s H E).env.cells.lookup x = some c → ∃ v, h₁.IsCell c v := fun x c h => by
    obtain ⟨_, rfl⟩ := one h
    exact ⟨vc, oc, hk _ _ hcs, hdc⟩
  refine ⟨⟨e0.mod, S.kind, rfl, rfl, Nat.le_refl _, fun y z c h1 h2 => ?_, fun y hy => ?_, fun y c h _ => ?_, fun _ => hd, Around.frames_deeper e0.frames, .inr ⟨rfl, rfl⟩, fun b z => absurd z (noA b), e0.bs, e0.bsz, fun b _ _ => noA b, fun b z => absurd z (noA b), e0.funs, e0.frf⟩,
    rfl, e0.bare, Un.kept hk, ⟨_, hns, fun i y v h1 h2 h3 => ?_⟩, cellOk, e0.hok.fresh (Nat.le_refl _), fun y c h => ?_, fun p hp => absurd (show p ∈ ([] : List (Addr × Obj)) from hp) (by simp), e0.hok.kept hk, ?_⟩
  · exact (one h1).1.trans (one h2).1.symm
  · have hy : scope.names.lookup y = some .cell ∨ scope.names.lookup y = some .free := hy
    rcases hy with hy | hy
    · exact absurd rfl (S.nocell _ (PySem.mem_of_lookup hy))
    · have e := S.free _ (PySem.mem_of_lookup hy) rfl
      have e' : y = "__class__" := e
      subst e'
      exact ⟨cc, by show List.lookup ("__class__" : Str) [(("__class__" : Str), cc)] = some cc; simp [List.lookup]⟩
  · cases h
  · have hi : i < vs.length := by
      unfold L2.start at h2
      by_cases hi : i < vs.length
      · exact hi
      · rw [List.getElem?_append_right (by simpa using hi)] at h2
        rw [List.getElem?_replicate] at h2
        split at h2 <;> cases h2
    have ha : vs[i]? = some v := by
      unfold L2.start at h2
      rw [List.getElem?_append_left (by simpa using hi), List.getElem?_map] at h2
      cases e : vs[i]? with
      | none => rw [e] at h2; cases h2
      | some a => rw [e] at h2; cases h2; rfl
    obtain ⟨u, hu, rv⟩ := r.get ha
    have hp : ps[i]? = some y := by
      rw [← S.pre, List.getElem?_take_of_lt (by omega)]; exact h1
    have ndP : ps.Nodup := by rw [← S.pre]; exact S.nd.sublist (List.take_sublist _ _)
    exact ⟨u, rv, .inl ⟨S.par y (List.mem_of_getElem? hp), rev_lookup ndP hp hu⟩⟩
  · obtain ⟨_, rfl⟩ := one h
    exact hcH
  · unfold L2.start
    show _ = N.length
    rw [List.length_append, List.length_map, List.length_replicate]
    omega
end
/-- such an __init__ as it stands behind the top: of the class at D, its __class__ in the cell at cc -/
structure FunS (P : Program) (K : PySem.W.Frag) (x qual : Str) (st : Stmt) (f : Addr) (fd : FuncData) (D cc : Addr) : Prop where
  ex : ∃ (oc : Value) (od : Option Addr) (kV doc pm : Value) (an : Option Addr) (cda : Addr) (ct : Value) (osl : Array (Option Value)),
    fd = PySem.W.ksFn x qual (defArgs st) (defBody st) (defScope st) .none kV doc pm an (.ref cda) ct cc ∧ K.lookup f = some ⟨oc, od, .func fd, osl⟩ ∧ PySem.W.codeIn K (.ref cda) qual = true ∧
    ∃ (ccl : Value) (cdd : Option Addr) (cvs : Array Value) (ccs : Array (Option Value)) (file : Str) (tf : Tok), K.lookup cda = some ⟨ccl, cdd, .fields cvs, ccs⟩ ∧ cvs[2]? = some (.str file tf) ∧ ((P.main.file : Str) == file) = true
  kp : PySem.W.keepIn K (.ref f) = true
  cell : ∃ cl cld csl, K.lookup cc = some ⟨cl, cld, .cell (some (.ref D)), csl⟩
  self : ∃ ar, ((defArgs st).posonlyargs ++ (defArgs st).args).head? = some ar ∧ ar.arg = "self"
/-- what super() asks of the class -/
structure SupC (P : Program) (K : PySem.W.Frag) (mg : Str → Option Value) (C : Addr) : Prop extends OexC K C where
  mS : mg "super" = none
  top : (P.main.scope.names.lookup ("super" : Str)).isSome = false
  any : PySem.W.nsIn K PySem.cStatics "thirdparty.any" = some none
  up : PySem.W.ks_superIn K C C "__init__" = some (some (.builtin "ValueError.__init__"))
  ve : PySem.W.subIn K (.ref C) (.type "ValueError") = some true
  own : PySem.W.mroIn K C (.ref C) = some true
theorem boot_super : bootBuiltins "super" = some (.type "super") := by decide +kernel
section
variable {X : Cx} {pins : List (Addr × Obj)} {σ : L2.St} {H : Hp} {s : Shared} {a C u : Addr}
/-- the bound built-in __init__ is called -/
theorem call_mw {us : List Value} {Q : Value → Shared → Prop} {E : Value → Shared → Prop} {A : Around} (T : OexC X.K C) (I : Inv X pins σ H s) (hu : s.heap.get? u = some (PySem.W.kxs_mw "ValueError.__init__" a)) (e : H a = some (exo a C none)) (hl : us.length ≤ sizeLine)
    (h : ∀ s', Inv X pins σ H s' → Q .none s') : wpAny (model X.prog X.w) A (call (.ref u) us) Q E s := by
  obtain ⟨nm, q, N, bs, bm, sn, sub, ab, col, dd, k0, k1, k2, k3, k5, hC, hbm⟩ := T.cls
  obtain ⟨t1, ho⟩ := exo_at I.hok e
  have kI := I.kIn
  obtain ⟨hp, g, d, t, os⟩ := s
  refine wpAny_call (codeAny_of_tree ?_)
  show wpAny _ A.in1 (callAny (.ref u) ⟨us, []⟩) _ _ _
  simp only [callAny]
  refine wpAny_bind (wpAny_load hu ?_)
  simp only [PySem.W.kxs_mw, show (Value.type "method-wrapper" == Value.type "method" || Value.type "method-wrapper" == Value.type "builtin_function_or_method" || Value.type "method-wrapper" == Value.type "method-wrapper") = true by decide, if_true]
  refine PySem.W.KFB.if_so (by decide) ?_
  refine wpAny_bind (PySem.W.check_bound_init F.excBase_ValueError.toExcCallFacts (kI _ _ hC) ho rfl ?_)
  refine wpAny_bind (wpAny_pure (wpAny_pure ?_))
  refine ⟨plainId_quiet F.excBase_ValueError.init.plain _, codeAny_builtin F.excBase_ValueError.initEntry ?_⟩
  refine PySem.W.exc_init_tree (cls := .ref C) (t0 := t1) (dv := none) (c2 := .none) (c3 := .none) (b4 := .bool false) ho hl fun h' k hx _ => ?_
  have J := I.write (t' := t) (x := a) (e := a) (o := exo a C none) (by rw [e]; exact True.intro) (.inl rfl) k ⟨_, hx⟩ (exo_ok hx)
  have eu : upd H a (exo a C none) = H := by
    funext b
    by_cases hb : b = a
    · rw [hb, upd_same, e]
    · rw [upd_ne hb]
  rw [eu] at J
  exact h _ J
end
section
variable {P : Program} {w : World} {K : PySem.W.Frag} {mg : Str → Option Value} {base : Heap}
/-- THE RULE for an __init__ that begins with super().__init__(e) -/
theorem FunS.ok {x qual : Str} {st : Stmt} {f C cc : Addr} {fd : FuncData} {N ps : List Str} {k : Nat} {sp : Sp} {e : Expr} {rest : List Stmt} {p0 p1 p2 p3 p4 : Pos} {pl : Env → Sem Bool} (F : FunS P K x qual st f fd C cc) (T : SupC P K mg C) (S : ScopeS N ps (defScope st))
    (hN : N[0]? = some ("self" : Str)) (h0 : ps[0]? = some ("self" : Str)) (hb : defBody st = .Expr (.Call (.Attribute (.Call (.Name "super" p0) [] [] p1) "__init__" p2) [e] [] p3) p4 :: rest) (len : ∀ vs H Q E, sp vs H Q E → vs.length = ps.length)
    (he : ∀ env, starEach [e] env = (false, eval e env) :: starEach [] env)
    (hev : ∀ env, eval (.Call (.Attribute (.Call (.Name "super" p0) [] [] p1) "__init__" p2) [e] [] p3) env = (do
      let ov ← attributeBase (.Call (.Name "super" p0) [] [] p1) "__init__" env (eval (.Call (.Name "super" p0) [] [] p1) env)
      standAt p2.atName
      let (f, first) ← holding [ov] (getMethod ov "__init__" (pl env))
      callWith p3 f first (backTo p3 (starEach [e] env)) []))
    (hi : ∀ L cd, interactive (PySem.W.ksEnv qual (defScope st) L f cd cc) = false) (hs : ∀ L cd, swapsWith (.Call (.Attribute (.Call (.Name "super" p0) [] [] p1) "__init__" p2) [e] [] p3) none p4.line (PySem.W.ksEnv qual (defScope st) L f cd cc) = pure false)
    (hbody : ∀ (cdv : Value) (A : Around) (outer : List Env) (s : Shared) (H : Hp) (vs : List V) (Q : VK) (E : XK), Room k (A.deeper (PySem.W.ksEnv qual (defScope st) s.heap.objs.size f cdv cc)) → sp vs H Q E →
      ∃ (a : Addr) (ta : TA) (t : TS), vs[0]? = some (.ref a) ∧ H a = some (exo a C none) ∧ PA (cxS CX0 P w K mg base N qual (defScope st) f cdv cc A outer s H E) [e] ta ∧ PSs (cxS CX0 P w K mg base N qual (defScope st) f cdv cc A outer s H E) rest t ∧
        ta (L2.start N vs) H fun ws H1 => ws.length ≤ 1000 ∧ H1 a = some (exo a C none) ∧ t { nx := fun _ H' => Q .non H', rt := Q } (L2.start N vs) H1) :
    FnOk P w K mg base CX0 (k + 1) f fd ps sp := by
  obtain ⟨oc, od, kV, doc, pm, an, cda, ct, osl, rfl, lk, hcd, ccl, cdd, cvs, ccs, file, tf, lc, hvs, hfile⟩ := F.ex
  refine ⟨len, fun A outer s H args us vs Q E hr e0 hbd r hsp => ?_⟩
  have keepB : ∀ b o, base.get? b = some o → s.heap.get? b = some o := fun b o z => (e0.bs b o z).1
  have KX : K.In s.heap := e0.mod.kin.keeps keepB
  have lim : s.heap.NoLimit := e0.mod.nolimit.keeps keepB
  obtain ⟨cl, cld, csl, lcc⟩ := F.cell
  obtain ⟨ar, har, hself⟩ := F.self
  refine ks_codeAny_call_defAt (body := defBody st) (binds := ps.zip us) hr.depth (KX _ _ lk) rfl lim (PySem.W.codeRec_of KX hcd) rfl hbd S.nocell (fun y hy => S.par y.1 (by obtain ⟨y1, y2⟩ := y; exact (List.of_mem_zip hy).1)) (fun h₁ hns hk₁ => ?_) S.co S.gen S.kind
  obtain ⟨a, ta, t, hva, hHa, hA, hR, ht⟩ := hbody (.ref cda) A outer s H vs Q E (hr.deeper _) hsp
  have I : Inv (cxS CX0 P w K mg base N qual (defScope st) f (.ref cda) cc A outer s H E) [] (L2.start N vs) H { s with heap := h₁, toks := s.toks + (ps.zip us).length } :=
    invS_start S hr.hd e0 (len _ _ _ _ hsp) r ⟨_, _, e0.mod.kin _ _ lcc, rfl⟩ hns hk₁
  obtain ⟨u0, hu0, rv0⟩ := r.get hva
  obtain rfl : u0 = Value.ref a := rv0
  have ndP : ps.Nodup := by rw [← S.pre]; exact S.nd.sublist (List.take_sublist _ _)
  have hself' : (fun y => (ps.zip us).reverse.lookup y) "self" = some (Value.ref a) := rev_lookup ndP h0 hu0
  have fin : ∀ {s' : Shared} {σ' : L2.St} {H' : Hp} {v : V} {u : Value}, Inv (cxS CX0 P w K mg base N qual (defScope st) f (.ref cda) cc A outer s H E) [] σ' H' s' → L2.RelV v u → Q v H' → CE outer P w H s Q u s' :=
    fun {s' σ' H' v u} J rv q => ⟨v, H', J.os, J.bare, J.base, J.hok, rv, q⟩
  obtain ⟨nm, q0, N0, bs, bm, sn, sub, ab, col, dd, k0, k1, k2, k3, k5, hC, hbm⟩ := T.cls
  have hcl : PySem.W.clsIn K C = some { name := nm, bases := bs, mro := .ref C :: bm, ns := N0, qualname := q0, hasDict := true, slotNames := sn, subclasses := sub, abstract := ab, collection := col, hasDel := false } := by unfold PySem.W.clsIn; rw [hC] <;> rfl
  have hal : PySem.W.alongIn K "__init__" (((.ref C :: bm).dropWhile (· != .ref C)).drop 1) = some (some (.builtin "ValueError.__init__")) := by
    have z := T.up
    unfold PySem.W.ks_superIn at z
    rw [hcl] at z
    exact z
  show PySem.wpAt _ _ _ (execs (defBody st) _) _ _ _
  rw [hb]
  refine ks_wpAt_execs_cons (ks_wpAt_Expr_any (ks_wpAt_MethodCall ?_ (hev _)) (hi _ _) (hs _ _))
  obtain ⟨t1, ho1⟩ := exo_at I.hok hHa
  have kI : K.In h₁ := KX.keeps hk₁
  have hxC : a ≠ C := fun z => by
    have z1 := kI _ _ hC
    rw [← z, ho1] at z1
    cases z1
  obtain ⟨mb, hmb, hmb2⟩ := e0.mod.blt
  have kb : ∀ b o, base.get? b = some o → h₁.get? b = some o := fun b o z => hk₁ b o (keepB b o z)
  refine ks_wpAt_super_base (env := PySem.W.ksEnv qual (defScope st) s.heap.objs.size f (.ref cda) cc) S.sup S.cls rfl rfl (kI _ _ lk) rfl har rfl (kI _ _ lc) rfl hvs hfile T.top ?_
  refine PySem.W.ks_loadName_global S.kind S.sup (Calls.loadGlobal_builtin (env := PySem.W.ksEnv qual (defScope st) s.heap.objs.size f (.ref cda) cc) (e0.mod.glob.keeps kb) T.mS (hmb.keeps kb) ((hmb2 _ (by decide)).trans boot_super) ⟨rfl, ?_⟩)
  refine wpAny_loadName_free S.kind S.cls (c := cc) (v := .ref C) (by show List.lookup ("__class__" : Str) [(("__class__" : Str), cc)] = some cc; simp [List.lookup]) ⟨_, kI _ _ lcc, rfl⟩ ?_
  rw [hself]
  refine wpAny_loadName_local S.kind (S.par "self" (List.mem_of_getElem? h0)) hns hself' ?_
  refine ks_wpAny_isType_cls (kI _ _ hC) rfl ⟨rfl, ?_⟩
  refine ks_wpAny_call_super (kI _ _ hC) rfl ho1 rfl (fun c z => by cases z) (PySem.W.looks_mroIn kI T.own) (fun h2 e2 k2' => ?_)
  have I2 : Inv (cxS CX0 P w K mg base N qual (defScope st) f (.ref cda) cc A outer s H E) [] (L2.start N vs) H ⟨h2, s.gens, s.drawn, s.toks + (ps.zip us).length, s.os⟩ := I.kept (h' := h2) (t' := s.toks + (ps.zip us).length) k2'
  have kI2 : K.In h2 := kI.keeps k2'
  have IA : PySem.W.InstAt h2 a ({ cls := .ref C, dict := none, data := .fields #[.ref t1, .none, .none, .none, .bool false, .none] } : Obj) C none := ⟨k2' _ _ ho1, rfl, rfl, trivial⟩
  refine PySem.W.kxs_getMethod PySem.W.kxs_ValueError e2 (PySem.W.looks_opaque kI2 T.any) (l₀ := .ref C :: bm) ((PySem.W.looks_clsIn kI2 hcl).andThen .now) rfl kI2 hal (IA.type.andThen (PySem.W.looks_subIn kI2 T.ve)) hxC (by decide) ?_
  have I3 : Inv (cxS CX0 P w K mg base N qual (defScope st) f (.ref cda) cc A outer s H E) [] (L2.start N vs) H ⟨h2.push (PySem.W.kxs_mw "ValueError.__init__" a), s.gens, s.drawn, s.toks + (ps.zip us).length + 1, s.os⟩ := I2.kept (h' := h2.push (PySem.W.kxs_mw "ValueError.__init__" a)) (t' := s.toks + (ps.zip us).length + 1) (fun b o z => Heap.get?_push_of_some _ z)
  have hmw : (h2.push (PySem.W.kxs_mw "ValueError.__init__" a)).get? h2.objs.size = some (PySem.W.kxs_mw "ValueError.__init__" a) := Heap.get?_push_size _ rfl
  have I4 : Inv (cxS CX0 P w K mg base N qual (defScope st) f (.ref cda) cc A outer s H E) [(h2.objs.size, PySem.W.kxs_mw "ValueError.__init__" a)] (L2.start N vs) H ⟨h2.push (PySem.W.kxs_mw "ValueError.__init__" a), s.gens, s.drawn, s.toks + (ps.zip us).length + 1, s.os⟩ := by
    refine I3.pins_of fun p hp => ?_
    obtain rfl := List.mem_singleton.mp hp
    refine ⟨hmw, I2.hok.fresh (Nat.le_refl _), fun z => ?_, I2.nofs (Nat.le_refl _), fun v z => nomatch z⟩
    have z1 := I2.lt
    have z' : h2.objs.size = (cxS CX0 P w K mg base N qual (defScope st) f (.ref cda) cc A outer s H E).env.locals := z
    rw [← z'] at z1
    exact absurd z1 (Nat.lt_irrefl _)
  show wpAny _ _ (callWith p3 (.ref h2.objs.size) [] (backTo p3 (starEach [e] _)) []) _ _ _
  rw [he]
  refine PySem.W.kxs_callWith (i := "ValueError.__init__") (x := a) (by rfl) (Calls.evalArgs_plain ?_)
  have hrun := hA.run p3 _ _ _ _ (fun ws H1 => ws.length ≤ 1000 ∧ H1 a = some (exo a C none) ∧ t { nx := fun _ H' => Q .non H', rt := Q } (L2.start N vs) H1) I4 ht
  rw [he] at hrun
  refine thn hrun fun us1 s1 ⟨ws, H1, I5, r1, hl, ea, q⟩ => ?_
  obtain ⟨g1, _⟩ := I5.pin _ (List.mem_append_right _ List.mem_cons_self)
  refine ⟨g1, ?_⟩
  show wpAny _ _ (call (.ref h2.objs.size) us1) _ _ _
  have I6 := I5.pins_of (pins' := []) fun p hp => absurd hp (by simp)
  refine call_mw (X := cxS CX0 P w K mg base N qual (defScope st) f (.ref cda) cc A outer s H E) T.toOexC I6 g1 ea (by rw [← r1.length, sizeLine_eq]; omega) fun s2 J => ?_
  show PySem.wpAt _ _ _ (execs rest _) _ _ _
  refine wpAt_of_wpAny (wpAny_mono (hR.run [] s2 _ H1 _ J q) (fun fl s' hs => ?_) fun e s' hs => hs)
  cases fl with
  | ret u =>
    obtain ⟨v, σ', H', J', rv, q'⟩ := hs
    exact fin J' rv q'
  | next =>
    obtain ⟨σ', H', J', q'⟩ := hs
    exact fin (v := V.non) (u := Value.none) J' rfl q'
  | brk =>
    obtain ⟨_, _, _, q'⟩ := hs
    exact False.elim q'
  | cont =>
    obtain ⟨_, _, _, q'⟩ := hs
    exact False.elim q'
end
end OH
end
section
set_option Elab.async false
set_option linter.all false
set_option maxRecDepth 100000
set_option maxHeartbeats 4000000
/-! An error that a handler keeps, with the dict of its fields. -/
namespace OH
namespace JX
open PySem PySem.W PySem.Spec PySem.Calls PyProof.Rows
section
variable {prog : Program} {w : World} {A : Around} {E : Value → Shared → Prop} {s : Shared} {K : Frag} {x D : Addr} {ox : Obj} {od : Option Obj} {Q : Option Value → Shared → Prop}
/-- what is handed out as the class of an error, whatever its own dict tells -/
theorem class_seen (C : L2.ExcC K D) (kin : K.In s.heap) (at_ : InstAt s.heap x ox D od) (done : Q (some (.ref D)) { s with toks := s.toks + 1 }) : wpAny (model prog w) A (getAttr? (.ref x) "__class__") Q E s := by
  obtain ⟨cd, hcd, _⟩ := any_some C.hd
  have found : findObj K D od "__class__" = some (.bind (.builtin "getset_descriptor.__get__") (.builtin "object.__class__")) := by
    simp [findObj, hcd, C.ha, C.hn, C.ht]
  obtain ⟨hp, g, d, t, os⟩ := s
  have ty := at_.type (M := model prog w)
  have isB : Looks (model prog w) hp (isInstance (.ref x) (.type "BaseException")) true := ty.andThen (looks_subIn kin C.hs)
  have way := looks_findIn (M := model prog w) kin C.hg
  have hook := looks_findIn (M := model prog w) kin C.hk
  have item := looks_find (M := model prog w) kin at_ found
  have ga := PySem.F.excAttr_ValueError.ga
  have inner : ∀ (A : Around) (Q : Value → Shared → Prop) (E : Value → Shared → Prop) (k : Nat), Q (.ref D) ⟨hp, g, d, k, os⟩ → wpAny (model prog w) A (call (.builtin "BaseException.__getattribute__") [.ref x, .str "__class__" t]) Q E ⟨hp, g, d, k, os⟩ := by
    intro A Q E k q
    refine wpAny_call (codeAny_call_builtin ga.plain PySem.F.entry_bexc_ga ?_)
    have kd : builtinKind "BaseException.__getattribute__" = some .slot := by decide +kernel
    have sp : splitId "BaseException.__getattribute__" = some ("BaseException", "__getattribute__") := by decide +kernel
    refine check_slot (i := "BaseException.__getattribute__") (owner := "BaseException") (n := "__getattribute__") (self := .ref x) (rest := [.str "__class__" t]) (kw := []) kd sp isB (PySem.F.args_bexc_ga (.ref x) (.str "__class__" t)) ?_
    unfold Builtin.«object.__getattribute__»
    refine wpAny_bind (wpAny_of_eq (a := ((Value.ref x : Value), [Value.str "__class__" t])) (by first | rfl | (simp only [slotArgs]; rfl)) (wpAny_bind (wpAny_pure ?_)))
    refine wpAny_bind (ty.at (wpAny_bind (item.at (wpAny_bind (wpAny_holding (wpAny_call (class_get (s := ⟨hp, g, d, k, os⟩) kin at_ C.hm ?_)))))))
    exact wpAny_pure q
  have notObj : (onTheHeap (Value.ref D) && Value.builtin "BaseException.__getattribute__" == Value.builtin "object.__getattribute__") = false := by
    have z : (Value.builtin "BaseException.__getattribute__" == Value.builtin "object.__getattribute__") = false := by decide +kernel
    rw [z]
    rfl
  unfold getAttr? getAttrBy? getAttrBy
  refine wpAny_bind (wpAny_mkText (wpAny_bind (wpAny_attempt (wpAny_holding (wpAny_bind (ty.at (wpAny_bind (way.at ?_))))))))
  dsimp only
  rw [if_neg (by rw [notObj]; exact Bool.false_ne_true)]
  unfold getAttrByItsOwn hookBefore callGetattribute boundAndCalled
  rw [if_pos (show onTheHeap (Value.ref D) = true from rfl)]
  refine wpAny_bind (hook.at (wpAny_bind (wpAny_attempt (wpAny_holding ?_))))
  rw [ga.bind (.ref x)]
  refine wpAny_bind (wpAny_pure (inner _ _ _ _ ?_))
  dsimp only
  rw [handedOut_of (v := .ref D) rfl]
  exact wpAny_pure (wpAny_pure done)
theorem kitx_j (C : L2.ExcC K D) : KitX K (.ref x) (.ref D) (fun h => InstAt h x ox D od) := by
  obtain ⟨cd, hcd, _⟩ := any_some C.hd
  obtain ⟨o, lo, ho⟩ : ∃ o, K.lookup D = some o ∧ o.data = .cls cd := by
    unfold clsIn at hcd
    split at hcd
    · rename_i c' d' cd' sl' ho
      cases hcd
      exact ⟨_, ho, rfl⟩
    · cases hcd
  refine ⟨fun _ _ _ I => I.type, fun _ _ kin _ => ?_, fun h tp dd its n sl kin htp => ?_, fun kin I k => class_seen C kin I k⟩
  · intro A' Q' E' s' k q
    unfold isType loadHead
    refine wpAny_bind (wpAny_loadPart (k _ _ (kin _ _ lo)) ?_)
    rw [ho]
    exact wpAny_pure q
  · cases hq : (Value.ref D == Value.ref tp) with
    | false => rfl
    | true =>
      obtain rfl : D = tp := Value.ref.inj (beq_iff_eq.mp hq)
      have z := (kin _ _ lo).symm.trans htp
      cases z
      cases ho
end
end JX
end OH
namespace OH
open PySem PySem.Spec PyProof.Rows L2
/-- an exception object of the class cls, its own dict at d, that some name holds -/
def ExJ (cls : Value) (d : Option Addr) (a : Addr) : HO := .ext fun h => ∃ (oe : Obj) (vs : Array Value), h.get? a = some oe ∧ Zc cls d oe ∧ oe.data = .fields vs
theorem kitx_any {K : PySem.W.Frag} {x D : Addr} {ox : Obj} {od : Option Obj} (C : ExcC K D) : PySem.W.KitX K (.ref x) (.ref D) (fun h => PySem.W.InstAt h x ox D od) :=
  JX.kitx_j C
section
variable {X : Cx} {pins : List (Addr × Obj)} {σ : L2.St} {H : Hp} {s : Shared}
/-- what a handler that keeps its error wishes of an error of the body -/
def wKeepJ (K : PySem.W.Frag) (c : Value) (i : Nat) (ts : Addr → Value → TS) (D : Ends) : WX := fun cls d σ H =>
  PySem.W.exmOne K cls c = some true ∧ ∀ a, H a = none →
    ts a cls { nx := fun σ' H' => D.nx (σ'.set i none) (upd H' a (ExJ cls d a)), rt := fun _ _ => False, bk := fun _ _ => False, ct := fun _ _ => False } (σ.set i (some (.ref a))) H
variable {x n : Str} {c : Value} {i : Nat} {body suite : List Stmt} {b₀ : Stmt} {np pos pos' : Pos} {tb : WX → TS} {ts : Addr → Value → TS}
/-- try: body / except x as n: suite, behind which the error is held -/
theorem ps_try_keepJ (hs : X.stack = X.env :: X.outer) (hf : X.env.frame = some X.env.locals) (hex : X.ex = []) (hN : X.N.Nodup) (hi : X.N[i]? = some n)
    (hln : X.env.kindOf n = some .local) (hc : Names X x c)
    (hb : ∀ (W : WX) (pn : List (Addr × Obj)) (xe : Value → Shared → Prop), Takes (X.tr pn xe) W → PassesOwn (model X.prog X.w) X.A X.env xe → PSs (X.tr pn xe) body (tb W))
    (hsu : ∀ (a : Addr) (oe : Obj) (cls : Value) (d : Option Addr) (pn : List (Addr × Obj)), Zc cls d oe → (∃ vs, oe.data = .fields vs) → PSs (X.suite a ((a, oe) :: pn)) (b₀ :: suite) (ts a cls)) :
    PS X (.Try body [.ExceptHandler (some (.Name x np)) (some n) (b₀ :: suite) pos'] [] [] pos) (fun D σ H => tb (wKeepJ X.K c i ts D) D σ H) := by
  constructor
  intro pins s σ H D I h
  have ok := I.ok
  have frm : X.A.frames = some (X.env :: X.outer) := ok.frames.trans (by rw [hs])
  apply wpAny_Try_except
  refine wpAny_mono ((hb (wKeepJ X.K c i ts D) (X.pn ++ pins)
    (fun e s₁ => wpAny (model X.prog X.w) X.A (noteFrame e X.env)
      (fun _ s₂ => wpAny (model X.prog X.w) X.A (setFlight e none)
        (fun _ s₃ => wpAny (model X.prog X.w) X.A (handleBy e X.env [.ExceptHandler (some (.Name x np)) (some n) (b₀ :: suite) pos']) (SP X pins D) X.xe s₃) X.xe s₂) X.xe s₁)
    ?took PassesOwn.looking).run [] s σ H D (I.toTry _) h) ?went (fun _ _ he => he)
  case went =>
    rintro (_ | _ | _ | u) s1 hsp
    · obtain ⟨σ', H', J, q⟩ := hsp
      exact wpAny_execs_nil ⟨σ', H', J.ofTry ok, q⟩
    · obtain ⟨σ', H', J, q⟩ := hsp
      exact ⟨σ', H', J.ofTry ok, q⟩
    · obtain ⟨σ', H', J, q⟩ := hsp
      exact ⟨σ', H', J.ofTry ok, q⟩
    · obtain ⟨v, σ', H', J, r, q⟩ := hsp
      exact ⟨v, σ', H', J.ofTry ok, r, q⟩
  case took =>
    rintro u s' ⟨a, B, sI, pins', σ', H', cls, d, rfl, J', nb, up, sky, na, os, ag, hm1, hyes⟩
    have J : Inv X pins σ' H' sI := J'.ofTry ok
    rw [show (X.tr (X.pn ++ pins) _).stack = X.env :: X.outer from hs] at sky
    show wpAny (model X.prog X.w) X.A (noteFrame (.ref a) X.env) _ _ _
    refine Sky.land Zc.steady frm hf sky fun h3 fl3 up3 => ?_
    obtain ⟨oe3, vs3, he3, hz3, hd3⟩ := fl3.there
    have Ba : B.get? a = none := fl3.2.1
    have aNf : a ∉ frs (X.env :: X.outer) := fun hm => by
      obtain ⟨_, o', e', hnf⟩ := fl3.2.2.1.mem hm
      rw [he3] at e'
      cases e'
      exact hnf _ hd3
    have aNs : a ∉ frs X.stack := by
      rw [hs]
      exact aNf
    have nL : a ≠ X.env.locals := fun z => aNf (List.mem_filterMap.mpr ⟨X.env, List.mem_cons_self, hf.trans (congrArg some z.symm)⟩)
    have nF : a ∉ X.fs := fun hm => by
      obtain ⟨en, he, q⟩ := List.mem_filterMap.mp hm
      exact aNf (List.mem_filterMap.mpr ⟨en, List.mem_cons_of_mem _ he, q⟩)
    have gI : sI.heap.get? a = none := by
      cases e : sI.heap.get? a with
      | none => rfl
      | some o => exact absurd ((nb a o e aNs).symm.trans Ba) (fun z => nomatch z)
    have g0 : X.s_0.heap.get? a = none := by
      cases e : X.s_0.heap.get? a with
      | none => rfl
      | some o =>
        obtain ⟨o', q⟩ := J.base.there a o e (by rw [hex]; exact List.not_mem_nil)
        rw [gI] at q
        cases q
    have pNa : ∀ p ∈ X.pn ++ pins, p.1 ≠ a := fun p hp z => by
      have q := (J.pin p hp).1
      rw [z, gI] at q
      cases q
    have J3 : Inv X pins σ' H' { s' with heap := h3 } := J.landed nb fl3.1 (up.trans up3) os ag
    have S3 := J3.suite he3 hd3 na nL nF
    refine wpAny_handleBy_cons (codeAny_handlers_test ?_) (by intro q; cases q)
    have tyA : PySem.W.Looks (model X.prog X.w) h3 (typeOf (.ref a)) cls := fun A Q E s k q => wpAny_typeOf_ref (k _ _ he3) (by rw [hz3.1]; exact q)
    have fit := PySem.W.exm_one (M := model X.prog X.w) J3.kIn tyA hm1
    have named : ∀ {Q : Value → Shared → Prop} {E : Value → Shared → Prop}, Q c { s' with heap := h3 } →
        wpAny (model X.prog X.w) (X.A.mark (some (.ref a))) (eval (.Name x np) X.env) Q E { s' with heap := h3 } := fun {Q E} q => by
      obtain ⟨hg, hdbg, hm | ⟨hm, hv, hnn⟩⟩ := hc
      · exact ld_glob (X := X.suite a ((a, oe3) :: (X.pn ++ pins))) S3 hg hm q hdbg
      · exact ld_blt (X := X.suite a ((a, oe3) :: (X.pn ++ pins))) S3 hg hm hv q hnn hdbg
    refine named (fit.here ?_)
    refine codeAny_handlers_suite_as ?_
    refine HandSPX.lands_againZ fl3 fun h4 fl4 up4 => ?_
    obtain ⟨oe4, vs4, he4, hz4, hd4⟩ := fl4.there
    have J4 : Inv X pins σ' H' { s' with heap := h4 } := J.landed nb fl4.1 ((up.trans up3).trans up4) os ag
    have S4 := J4.suite he4 hd4 na nL nF
    refine store_ok (X := X.suite a ((a, oe4) :: (X.pn ++ pins))) (v := .ref a) S4 hN hi (Or.inl hln) rfl (fun s5 S5 => ?_) (.inr hln)
    refine wpAny_mono ((hsu a oe4 cls d (X.pn ++ pins) hz4 ⟨_, hd4⟩).run [] s5 _ H' _ S5 (hyes a na)) ?_ (fun _ _ z => False.elim z)
    rintro (_ | _ | _ | u) s6 hsp
    · obtain ⟨σ6, H6, S6, q6⟩ := hsp
      obtain ⟨g6, n6, _⟩ := S6.pin (a, oe4) (List.mem_append_left _ List.mem_cons_self)
      have T6 := track (o := ExJ cls d a) (S6.unsuite ok) g6 n6 g0 nL (fun v z => nomatch (hd4.symm.trans z)) pNa
        ⟨⟨oe4, vs4, g6, hz4, hd4⟩, ⟨oe4, g6⟩, fun _ _ ⟨o, v, q, r⟩ k => ⟨o, v, k o q, r⟩⟩
      exact gone_ok T6 hN hi hln fun s7 J7 => ⟨_, _, J7, q6⟩
    all_goals
      first
        | (obtain ⟨_, _, _, q6⟩ := hsp; exact False.elim q6)
        | (obtain ⟨_, _, _, _, _, q6⟩ := hsp; exact False.elim q6)
/-- told: found = None / try: a() / except x as e: found = e / return found -/
def TTj (K : PySem.W.Frag) (CS : Addr) : (XK → Hp → VK → Prop) → Hp → VK → Prop := fun tl H Q => ∀ Q' : VK, (∀ v H1, Q .non H1 → Q' v H1) →
  tl (fun cls d H' => PySem.W.exmOne K cls (.ref CS) = some true ∧ ∀ a, H' a = none → Q (.ref a) (upd H' a (ExJ cls d a))) H Q'
/-- what is at a: an error of the class D that is held, its dict with what fs tells (none: it has none) -/
def Held (H : Hp) (a D : Addr) (fs : Option (List (Str × V))) : Prop := match fs with
  | none => H a = some (ExJ (.ref D) none a)
  | some l => ∃ d, H a = some (ExJ (.ref D) (some d) a) ∧ H d = some (.xd l)
theorem held_inst {a D : Addr} {fs : Option (List (Str × V))} (I : Inv X pins σ H s) (h : Held H a D fs) : ∃ (oe : Obj) (od : Option Obj), PySem.W.InstAt s.heap a oe D od ∧
    ∀ l, fs = some l → ∃ (o : Obj) (mA : Str → Option Value), od = some o ∧ (∀ f, RelO (l.lookup f) (mA f)) ∧ ∀ name, PySem.W.lookIn name o = some (mA name) := by
  cases fs with
  | none =>
    obtain ⟨⟨oe, vs, g, hz, hd⟩, _, _⟩ := I.hok a _ h
    obtain ⟨oc, od, oda, osl⟩ := oe
    obtain ⟨z1, z2⟩ := hz
    dsimp only at z1 z2 hd
    subst z1 z2 hd
    exact ⟨_, none, ⟨g, rfl, rfl, trivial⟩, fun l z => nomatch z⟩
  | some l =>
    obtain ⟨d, ha, hd'⟩ := h
    obtain ⟨⟨oe, vs, g, hz, hd⟩, _, _⟩ := I.hok a _ ha
    have hx : ObjOk X.prog X.w H s.heap d (.xd l) := I.hok d _ hd'
    obtain ⟨mA, hns, hr⟩ := hx
    obtain ⟨od1, ho, hl⟩ := lookIn_ns hns
    obtain ⟨oc, od, oda, osl⟩ := oe
    obtain ⟨z1, z2⟩ := hz
    dsimp only at z1 z2 hd
    subst z1 z2 hd
    refine ⟨_, some od1, ⟨g, rfl, rfl, ho⟩, fun l' z => ?_⟩
    cases z
    exact ⟨od1, mA, rfl, hr, hl⟩
/-- isinstance(e, c), e an error that is held -/
theorem call_isJ {D : Addr} {fs : Option (List (Str × V))} (C : ExcC X.K D) : CallR X (.builtin "isinstance") (fun xs H Q => ∃ (a : Addr) (c : V) (cv : Value) (b : Bool),
    xs = [.ref a, c] ∧ Held H a D fs ∧ (∀ u, RelV c u → u = cv) ∧ PySem.W.kitOne X.K (.ref D) cv = some b ∧ Q (.bl b) H) := by
  rintro pins s σ H xs us Q I r ⟨a, c, cv, b, rfl, hA, hcv, e, q⟩
  obtain ⟨oe, od, J, _⟩ := held_inst I hA
  rcases r with _ | ⟨rx, rr⟩
  rcases rr with _ | ⟨rt, rr⟩
  cases rr
  obtain rfl : _ = Value.ref a := rx
  obtain rfl := hcv _ rt
  exact PySem.W.kia_one (kitx_any (od := od) C) I.kIn J e (fun z => nomatch z)
    fun tk => ⟨.bl b, H, I.kept (t' := tk) fun _ _ z => z, rfl, q⟩
/-- what a class of errors must say, so that a field f of its objects is read rightly -/
structure ExcF (K : PySem.W.Frag) (D : Addr) (f : Str) : Prop where
  ga : PySem.W.findIn K (.ref D) "__getattribute__" = some (some (.builtin "BaseException.__getattribute__"))
  gg : PySem.W.findIn K (.ref D) "__getattr__" = some none
  ex : PySem.W.subIn K (.ref D) (.type "BaseException") = some true
  hd : PySem.W.hasDictIn K D = true
  no : PySem.W.findIn K (.ref D) f = some none
/-- e.f, e an error that is held -/
def tHeld (D : Addr) (f : Str) (te : TE) : TE := fun σ H Q => te σ H fun x H1 => ∃ (a : Addr) (l : List (Str × V)) (v : V), x = .ref a ∧ Held H1 a D (some l) ∧ l.lookup f = some v ∧ Q v H1
theorem pe_heldf {D : Addr} {e : Expr} {f : Str} {te : TE} {pos : Pos} (T : ExcF X.K D f) (he : PE X e te) (hb : attributeBase e f X.env (eval e X.env) = eval e X.env := by rfl) : PE X (.Attribute e f pos) (tHeld D f te) := by
  refine ⟨fun pins s σ H Q I h => ?_⟩
  refine attr_of hb (thn (he.run pins s σ H _ I h) fun u s1 hh => ?_)
  obtain ⟨x, H1, I1, rx, a, l, v, ex, hA, hv, q⟩ := hh
  subst ex
  obtain rfl : u = Value.ref a := rx
  obtain ⟨oe, od, J, hJ⟩ := held_inst I1 hA
  obtain ⟨o, mA, rfl, hr, hl⟩ := hJ l rfl
  obtain ⟨u, hu, ru⟩ := RelO.some_of (v := v) (o := mA f) (by rw [← hv]; exact hr f)
  exact PySem.HandSPX.exc_get I1.kIn J T.ga T.gg T.ex (PySem.W.findObj_own T.hd T.no rfl (by rw [hl, hu])) (handed_of ru) ⟨v, H1, I1.tok _, ru, q⟩
/-- {x}: a text, an int, a bool or None, as a text -/
inductive FmtAs : V → Str → Prop where
  | str (y : Str) (h : y.length ≤ sizeLine) : FmtAs (.str y) y
  | int (i : Int) (h : i.natAbs.log2 < 1920) : FmtAs (.int i) (toString i)
  | non : FmtAs .non "None"
  | bl (b : Bool) : FmtAs (.bl b) (if b then "True" else "False")
def tFmtA (te : TE) : TE := fun σ H Q => te σ H fun x H1 => ∃ y : Str, FmtAs x y ∧ Q (.str y) H1
theorem pe_fmtA {e : Expr} {te : TE} {pos : Pos} (he : PE X e te) : PE X (.FormattedValue e (-1) none pos) (tFmtA te) := by
  refine ⟨fun pins s σ H Q I h => ?_⟩
  refine wpAny_FormattedValue_plain (thn (he.run pins s σ H _ I h) fun v s1 hv => ?_)
  obtain ⟨x, H1, I1, r1, y, f, q⟩ := hv
  cases f with
  | str y hz =>
    obtain ⟨t, rfl⟩ := r1
    exact wpAny_formatField_str ⟨.str y, H1, I1, ⟨t, rfl⟩, q⟩ ⟨.str y, H1, I1.tok _, ⟨_, rfl⟩, q⟩ hz
  | int i hz =>
    obtain ⟨t, rfl⟩ := r1
    exact wpAny_formatField_int hz ⟨.str (toString i), H1, I1.tok _, ⟨_, rfl⟩, q⟩
  | non =>
    cases r1
    exact wpAny_formatField_none ⟨.str "None", H1, I1.tok _, ⟨_, rfl⟩, q⟩
  | bl b =>
    cases r1
    exact wpAny_formatField_bool ⟨.str (if b then "True" else "False"), H1, I1.tok _, ⟨_, rfl⟩, q⟩
end
end OH
namespace OH
open PySem PySem.Spec PyProof.Rows L2
/-! Making such an error. -/
def FmtV (v : V) : Prop := ∃ y, FmtAs v y ∧ y.length ≤ 100000
structure ErrF (P : Program) (K : PySem.W.Frag) (mg : Str → Option Value) (x f : Str) (C : Addr) : Prop where
  g : mg x = some (.ref C)
  s : SupC P K mg C
  i : ExcC K C
  no : PySem.W.findIn K (.ref C) f = some none
theorem ErrF.f {P : Program} {K : PySem.W.Frag} {mg : Str → Option Value} {x f : Str} {C : Addr} (T : ErrF P K mg x f C) : ExcF K C f := ⟨T.i.hg, T.i.hk, T.i.hs, T.i.hd, T.no⟩
/-- what __init__(self, v) with one field f does -/
def spErr1 (C : Addr) (f : Str) : Sp := fun vs H Q _ => ∃ (a : Addr) (v : V), vs = [.ref a, v] ∧ FmtV v ∧ H a = some (exo a C none) ∧
  ∀ dx, H dx = none → dx ≠ a → Q .non (upd (upd H dx (exd dx [(f, v)])) a (exo a C (some dx)))
section
variable {X : Cx} {C fI : Addr} {x f : Str} {e : Expr} {ta : TA} {p pos : Pos} {fd : FuncData}
/-- a reading whose end may be weakened -/
def tUp (ta : TA) : TA := fun σ H Q => ∃ R, ta σ H R ∧ ∀ vs H1, R vs H1 → Q vs H1
theorem pa_up {es : List Expr} (ha : PA X es ta) : PA X es (tUp ta) := ⟨fun pos pins s σ H Q I ⟨R, h, k⟩ => thn (ha.run pos pins s σ H R I h) fun us s1 ⟨vs, H1, I1, r, q⟩ => ⟨vs, H1, I1, r, k vs H1 q⟩⟩
def tMk1 (C : Addr) (f : Str) (ta : TA) : L2.St → Hp → XK → Prop := fun σ H Q => ta σ H fun vs H1 => ∃ v, vs = [v] ∧ FmtV v ∧ ∀ d, H1 d = none → Q (.ref C) (some d) (upd H1 d (.xd [(f, v)]))
theorem pmk_err1 (T : ErrF X.prog X.K X.mg x f C) (iC : PySem.W.findIn X.K (.ref C) "__init__" = some (some (.ref fI))) (tI : PySem.W.typeIn X.K (.ref fI) = some (.type "function"))
    (F1 : FnOk X.prog X.w X.K X.mg X.base CX0 1 fI fd ["self", f] (spErr1 C f)) (hr : Room 2 X.A) (hb : Binds X.K fd ["self", f] []) (hg : Gl X x) (ha : PA X [e] ta)
    (hdb : (x == ("__debug__" : Str)) = false := by decide) (he : starEach [e] X.env = (false, eval e X.env) :: starEach [] X.env := by rfl) (hpl : (backTo pos (starEach [] X.env)).any (·.1) = false := by rfl) :
    PMk X (.Call (.Name x p) [e] [] pos) (tMk1 C f ta) := by
  intro pins s σ H Q I h
  refine pmk_oex (pos := pos) T.s.toOexC iC tI F1 hr hb .nil pass0 hg T.g (pa_up ha) hdb he hpl pins s σ H Q I ⟨_, h, fun vs H1 hv => ?_⟩
  obtain ⟨v, rfl, fm, q⟩ := hv
  refine ⟨by show 1 ≤ 1000; omega, fun a na => ⟨a, v, rfl, fm, upd_same, fun dx n1 n2 => ⟨rfl, dx, [(f, v)], upd_same, (upd_ne n2).trans upd_same, ?_, ?_⟩⟩⟩
  · rw [upd_ne n2] at n1
    exact n1
  · have n0 : H1 dx = none := by
      rw [upd_ne n2] at n1
      exact n1
    have eh : upd (L2.del (upd (upd (upd H1 a (exo a C none)) dx (exd dx [(f, v)])) a (exo a C (some dx))) a) dx (.xd [(f, v)]) = upd H1 dx (.xd [(f, v)]) := by
      funext b
      by_cases h1 : b = dx
      · rw [h1, upd_same, upd_same]
      · rw [upd_ne h1, upd_ne h1]
        by_cases h2 : b = a
        · rw [h2, L2.del_same, na]
        · rw [L2.del_ne h2, upd_ne h2, upd_ne h1, upd_ne h2]
    have eh' : _ = _ := eh
    rw [eh']
    exact q dx n0
end
end OH
end
section
set_option Elab.async false
set_option linter.all false
set_option maxRecDepth 100000
set_option maxHeartbeats 4000000
/-! What the law says of control and asks. -/
namespace OH
open PySem PySem.Spec PyProof.Rows L2
theorem cutV_pop (xs : List V) : cutV xs none (some (-1)) = xs.dropLast := by
  unfold cutV
  have e1 : HT.sIx xs.length 0 none = 0 := by simp [HT.sIx]
  have e2 : HT.sIx xs.length xs.length (some (-1)) = xs.length - 1 := by
    show (if (-1 : Int) < 0 then ((-1 : Int) + (xs.length : Int)).toNat else min (-1 : Int).toNat xs.length) = _
    rw [if_pos (by decide)]
    omega
  rw [e1, e2, List.drop_zero, Nat.sub_zero, List.dropLast_eq_take]
def AkAt (H : Hp) (l : Addr) (as : List (Int × Int)) : Prop := ∃ ps : List Addr, H l = some (.lst (ps.map V.ref)) ∧ AllAt H pairV ps as
theorem AkAt.same {H H' : Hp} {l : Addr} {as : List (Int × Int)} (h : AkAt H l as) (s : Same H H') : AkAt H' l as := by
  obtain ⟨ps, h1, h2⟩ := h
  exact ⟨ps, s _ _ h1, h2.mono fun q xs e => s _ _ e⟩
theorem AllAt.drop_ {α : Type} {H : Hp} {f : α → List V} : ∀ {xs : List α} {ps : List Addr}, AllAt H f ps xs → AllAt H f ps.dropLast xs.dropLast
  | [], _, h => by
    cases h
    exact .nil
  | [a], _, h => by
    cases h with
    | cons e t =>
      cases t
      exact .nil
  | a :: b :: r, _, h => by
    cases h with
    | cons e t =>
      cases t with
      | cons e2 t2 => exact .cons e (AllAt.drop_ (xs := b :: r) (.cons e2 t2))
def spBehind (K : PySem.W.Frag) : Sp := fun vs H Q _ => ∃ (cv : V) (al t : Addr) (c : Option Int) (as : List (Int × Int)) (x : Crs), vs = [cv, .ref al, .ref t] ∧ AkAt H al as ∧ H t = some (.tup x.vs) ∧ as.length ≤ 100000 ∧
  ∀ u al' H', Same H H' → H u = none → (al' = al ∨ H al' = none) → H' u = some (.tup [optV (bh (c, as) x).1, .ref al']) → AkAt H' al' (bh (c, as) x).2 → Q (.ref u) H'
section
variable {P : Program} {w : World} {K : PySem.W.Frag} {mg : Str → Option Value} {base : Heap}
theorem sc__law_behind : FnScope ["control", "asks", "crossing"] ["control", "asks", "crossing"] (defScope s__law_behind) := ⟨rfl, rfl, rfl, by decide +kernel, rfl, by decide +kernel, by decide +kernel⟩
theorem ok__law_behind {f : Addr} {fd : FuncData} (F : Fun K "_law_behind" "_law_behind" s__law_behind f fd) : FnOk P w K mg base CX0 1 f fd ["control", "asks", "crossing"] (spBehind K) := by
  refine F.ok sc__law_behind (fun vs H Q E h => ?_) (fun cdv A outer s H vs Q E hr h => ?_)
  · obtain ⟨cv, al, t, c, as, x, rfl, _⟩ := h
    rfl
  · obtain ⟨cv, al, t, c, as, x, rfl, ha, ht, hn, k⟩ := h
    refine ⟨_, pss_cons (ps_if (pt_cmpR op_eq (pe_ix ix_tup (pv 2) pe_int (fun _ _ => rfl)) pe_str (nomark _)) (pss_one (ps_ret (pe_tup (pa_cons (pe_ix ix_tup (pv 2) pe_int (fun _ _ => rfl)) (pa_cons (pe_op op_cat (pv 1) (pe_lst (pa_cons (pe_tup (pa_cons (pe_ix ix_tup (pv 2) pe_int (fun _ _ => rfl)) (pa_cons (pe_ix ix_tup (pv 2) pe_int (fun _ _ => rfl)) pa_nil))) pa_nil))) pa_nil))))) pss_nil)
      (pss_cons (ps_if (pt_cmpR op_eq (pe_ix ix_tup (pv 2) pe_int (fun _ _ => rfl)) pe_str (nomark _)) (pss_one (ps_ret (pe_tup (pa_cons (pe_ix ix_tup (pv 2) pe_int (fun _ _ => rfl)) (pa_cons (pe_slice sl_list (pv 1) po_none (po_some (pe_un un_neg pe_int))) pa_nil))))) pss_nil)
      (pss_one (ps_ret (pe_tup (pa_cons (pe_ifExp (pt_cmpR op_eq (pe_ix ix_tup (pv 2) pe_int (fun _ _ => rfl)) pe_str (nomark _)) pe_int pe_non) (pa_cons (pv 1) pa_nil)))))), ?_⟩
    obtain ⟨ps, a1, a2⟩ := ha
    have lp := a2.len
    have T : SqT K H t x.vs := SqT.of ht
    have keep : ∀ {v : V} {w0 : Option Int}, v = optV w0 → (bh (c, as) x) = (w0, as) → ∀ u, H u = none → Q (.ref u) (upd H u (.tup [v, .ref al])) := fun {v w0} e1 e2 u nu => by
      have s1 := sadd (o := .tup [v, .ref al]) (Same.refl H) nu
      exact k u al _ s1 nu (.inl rfl) (by rw [e2, upd_same, e1]) (by rw [e2]; exact ⟨ps, s1 _ _ a1, a2.mono fun q xs e => s1 _ _ e⟩)
    cases x with
    | call a b d n =>
      refine ⟨_, rfl, t, _, 0, _, rfl, rfl, T, rfl, rfl, _, rfl, iteT ?_⟩
      refine ⟨_, rfl, t, _, 2, _, rfl, rfl, T, rfl, _, rfl, _, rfl, t, _, 1, _, rfl, rfl, T, rfl, _, rfl, t, _, 2, _, rfl, rfl, T, rfl, (by show 2 ≤ sizeLine; decide), fun pq npq => ?_⟩
      have s1 := sadd (o := .tup [.int a, .int b]) (Same.refl H) npq
      have hpq : upd H pq (.tup [.int a, .int b]) pq = some (.tup (pairV (a, b))) := upd_same
      generalize upd H pq (.tup [.int a, .int b]) = H1 at s1 hpq ⊢
      refine ⟨(by show 1 ≤ sizeLine; decide), fun la nla => ?_⟩
      have s2 := sadd (o := .lst [.ref pq]) s1 nla
      have s12 := sadd (o := .lst [.ref pq]) (Same.refl H1) nla
      have hla : upd H1 la (.lst [.ref pq]) la = some (.lst [.ref pq]) := upd_same
      have hp2 := s12 _ _ hpq
      generalize upd H1 la (.lst [.ref pq]) = H2 at s2 hla hp2 ⊢
      refine ⟨al, la, _, _, rfl, rfl, s2 _ _ a1, hla, (by rw [List.length_map, lp, sizeLine_eq]; show _ + 1 ≤ _; omega), fun ca nca => ?_⟩
      have s3 := sadd (o := .lst (ps.map V.ref ++ [.ref pq])) s2 nca
      have s23 := sadd (o := .lst (ps.map V.ref ++ [.ref pq])) (Same.refl H2) nca
      have hca : upd H2 ca (.lst (ps.map V.ref ++ [.ref pq])) ca = some (.lst ((ps ++ [pq]).map V.ref)) := by rw [upd_same, List.map_append]; rfl
      have hp3 := s23 _ _ hp2
      generalize upd H2 ca (.lst (ps.map V.ref ++ [.ref pq])) = H3 at s3 hca hp3 ⊢
      refine ⟨(by show 2 ≤ sizeLine; decide), fun u nu => ?_⟩
      have s4 := sadd (o := .tup [.int b, .ref ca]) s3 nu
      have s34 := sadd (o := .tup [.int b, .ref ca]) (Same.refl H3) nu
      exact k u ca _ s4 (s3.free nu) (.inr (s2.free nca)) upd_same ⟨ps ++ [pq], s34 _ _ hca, AllAt.app (a2.mono fun q xs e => s4 _ _ e) (s34 _ _ hp3)⟩
    | back a b n =>
      refine ⟨_, rfl, t, _, 0, _, rfl, rfl, T, rfl, rfl, _, rfl, iteF ?_⟩
      refine ⟨_, rfl, t, _, 0, _, rfl, rfl, T, rfl, rfl, _, rfl, iteT ?_⟩
      refine ⟨_, rfl, t, _, 2, _, rfl, rfl, T, rfl, _, rfl, _, rfl, _, rfl, al, _, rfl, SqL.of a1, fun r nr => ?_⟩
      rw [cutV_pop]
      have s1 := sadd (o := .lst (ps.map V.ref).dropLast) (Same.refl H) nr
      have hr1 : upd H r (.lst (ps.map V.ref).dropLast) r = some (.lst (ps.dropLast.map V.ref)) := by rw [upd_same, List.map_dropLast]
      generalize upd H r (.lst (ps.map V.ref).dropLast) = H1 at s1 hr1 ⊢
      refine ⟨(by show 2 ≤ sizeLine; decide), fun u nu => ?_⟩
      have s2 := sadd (o := .tup [.int b, .ref r]) s1 nu
      have s12 := sadd (o := .tup [.int b, .ref r]) (Same.refl H1) nu
      exact k u r _ s2 (s1.free nu) (.inr nr) upd_same ⟨ps.dropLast, s12 _ _ hr1, (a2.mono fun q xs e => s2 _ _ e).drop_⟩
    | start n =>
      refine ⟨_, rfl, t, _, 0, _, rfl, rfl, T, rfl, rfl, _, rfl, iteF ?_⟩
      refine ⟨_, rfl, t, _, 0, _, rfl, rfl, T, rfl, rfl, _, rfl, iteF ?_⟩
      refine ⟨_, rfl, t, _, 0, _, rfl, rfl, T, rfl, rfl, _, rfl, iteT ?_⟩
      exact ⟨_, rfl, (by show 2 ≤ sizeLine; decide), keep (w0 := some 0) rfl rfl⟩
    | _ =>
      refine ⟨_, rfl, t, _, 0, _, rfl, rfl, T, rfl, rfl, _, rfl, iteF ?_⟩
      refine ⟨_, rfl, t, _, 0, _, rfl, rfl, T, rfl, rfl, _, rfl, iteF ?_⟩
      refine ⟨_, rfl, t, _, 0, _, rfl, rfl, T, rfl, rfl, _, rfl, iteF ?_⟩
      exact ⟨_, rfl, (by show 2 ≤ sizeLine; decide), keep (w0 := none) rfl rfl⟩
end
end OH
end
section
set_option Elab.async false
set_option linter.all false
set_option maxRecDepth 100000
set_option maxHeartbeats 4000000
/-! Control and asks behind a row. -/
namespace OH
open PySem PySem.Spec PyProof.Rows L2
theorem stt_len : ∀ (cs : List Crs) (s : Rs), (stt s cs).2.length ≤ s.2.length + cs.length
  | [], s => Nat.le_refl _
  | x :: xs, s => by
    have h1 := stt_len xs (bh s x)
    have h2 : (bh s x).2.length ≤ s.2.length + 1 := by
      cases x with
      | call a b d n => show (s.2 ++ [(a, b)]).length ≤ _; rw [List.length_append]; exact Nat.le_refl _
      | back a b n => show (s.2.dropLast).length ≤ _; rw [List.length_dropLast]; omega
      | _ => exact Nat.le_succ _
    show (stt (bh s x) xs).2.length ≤ _
    rw [List.length_cons]
    omega
def spBehindRow : Sp := fun vs H Q _ => ∃ (l : Addr) (cs : List Crs), vs = [.ref l] ∧ RwAt H l cs ∧ cs.length ≤ 1000 ∧
  ∀ u al' H', Same H H' → H u = none → H al' = none → H' u = some (.tup [optV (stt (none, []) cs).1, .ref al']) → AkAt H' al' (stt (none, []) cs).2 → Q (.ref u) H'
section
variable {P : Program} {w : World} {K : PySem.W.Frag} {mg : Str → Option Value} {base : Heap}
abbrev nBr : List Str := ["row", "control", "asks", "crossing"]
end
end OH
end
section
set_option Elab.async false
set_option linter.all false
set_option maxRecDepth 100000
set_option maxHeartbeats 4000000
/-! One list a beginning of another. -/
namespace OH
open PySem PySem.Spec PyProof.Rows L2
theorem same_seq {K : PySem.W.Frag} {H H' : Hp} {a : Addr} {xs : List V} (s : Same H H') (h : SqL K H a xs) : SqL K H' a xs := h.elim (fun h => .inl (h.elim (fun h => .inl (s _ _ h)) fun ⟨o, h⟩ => .inr ⟨o, s _ _ h⟩)) fun h => .inr h
mutual
theorem Dp_mono {K : PySem.W.Frag} {H H' : Hp} {v : V} {d : PyData} : Dp K H v d → Same H H' → Dp K H' v d
  | .non, _ => .non
  | .bl b, _ => .bl b
  | .int i, _ => .int i
  | .str x, _ => .str x
  | .lst h hs, s => .lst (same_seq s h) (DpAll_mono hs s)
  | .tup h hs, s => .tup (h.imp (fun e => e.imp (fun q => s _ _ q) fun ⟨o, q⟩ => ⟨o, s _ _ q⟩) id) (DpAll_mono hs s)
theorem DpAll_mono {K : PySem.W.Frag} {H H' : Hp} {vs : List V} {ds : List PyData} : DpAll K H vs ds → Same H H' → DpAll K H' vs ds
  | .nil, _ => .nil
  | .cons h hs, s => .cons (Dp_mono h s) (DpAll_mono hs s)
end
theorem DpAll_take {K : PySem.W.Frag} {H : Hp} : ∀ {n : Nat} {vs : List V} {ds : List PyData}, DpAll K H vs ds → DpAll K H (vs.take n) (ds.take n)
  | 0, _, _, _ => .nil
  | n + 1, [], _, h => by
    cases h
    exact .nil
  | n + 1, v :: vs, _, h => by
    cases h with
    | cons e t => exact .cons e (DpAll_take (n := n) t)
theorem DpAll_len {K : PySem.W.Frag} {H : Hp} : ∀ {vs : List V} {ds : List PyData}, DpAll K H vs ds → vs.length = ds.length
  | [], _, h => by
    cases h
    rfl
  | v :: vs, _, h => by
    cases h with
    | cons e t => exact congrArg (· + 1) (DpAll_len t)
theorem cutV_take (xs : List V) (n : Nat) : cutV xs none (some (n : Int)) = xs.take n := by
  unfold cutV
  have e1 : HT.sIx xs.length 0 none = 0 := by simp [HT.sIx]
  have e2 : HT.sIx xs.length xs.length (some (n : Int)) = min n xs.length := by
    show (if ((n : Int) < 0) then ((n : Int) + (xs.length : Int)).toNat else min ((n : Int)).toNat xs.length) = _
    rw [if_neg (by omega), Int.toNat_natCast]
  rw [e1, e2, List.drop_zero, Nat.sub_zero]
  by_cases h : n ≤ xs.length
  · rw [Nat.min_eq_left h]
  · rw [Nat.min_eq_right (by omega), List.take_length, List.take_of_length_le (by omega)]
def spIsB (K : PySem.W.Frag) : Sp := fun vs H Q _ => ∃ (a b : Addr) (xs ys : List V) (ds es : List PyData), vs = [.ref a, .ref b] ∧ H a = some (.lst xs) ∧ H b = some (.lst ys) ∧ DpAll K H xs ds ∧ DpAll K H ys es ∧ xs.length ≤ 100000 ∧ ys.length ≤ 100000 ∧
  SeqAt.shaped (.list ds) = true ∧ SeqAt.shaped (.list (es.take ds.length)) = true ∧ ∀ H', Same H H' → Q (.bl (PyData.eqv (.list (es.take ds.length)) (.list ds))) H'
section
variable {P : Program} {w : World} {K : PySem.W.Frag} {mg : Str → Option Value} {base : Heap}
end
end OH
end
section
set_option Elab.async false
set_option linter.all false
set_option maxRecDepth 100000
set_option maxHeartbeats 4000000
/-! A few numbers. -/
namespace OH
open PySem PySem.Spec PyProof.Rows L2
def spFew : Sp := fun vs H Q _ => ∃ (st g c : Addr) (n : Nat), vs = [.ref st] ∧ SA H st g c n ∧ n ≤ 800000 ∧
  ∀ (l : Addr) (ns : List Int) (H' : Hp), H l = none → l ≠ st → l ≠ g → l ≠ c → H' l = some (.lst (ns.map V.int)) → 1 ≤ ns.length → ns.length ≤ 3 → (∀ z ∈ ns, Num z) → SA H' st g c (n + 7) → Fr st g H H' → Q (.ref l) H'
section
variable {P : Program} {w : World} {K : PySem.W.Frag} {mg : Str → Option Value} {base : Heap}
abbrev nFew : List Str := ["state", "turn"]
theorem sc__law_few : FnScope nFew ["state"] (defScope s__law_few) := ⟨rfl, rfl, rfl, by decide +kernel, rfl, by decide +kernel, by decide +kernel⟩
theorem ok__law_few {f : Addr} {fd : FuncData} (F : Fun K "_law_few" "_law_few" s__law_few f fd) (T : Txt K mg) (DD : DefF P w K mg base CX0 8 "_law_draw" ["state", "room"] spDraw) (DS : DefF P w K mg base CX0 8 "_law_small" ["state"] (spNo 2)) : FnOk P w K mg base CX0 9 f fd ["state"] spFew := by
  refine F.ok sc__law_few (fun vs H Q E h => ?_) (fun cdv A outer s H vs Q E hr h => ?_)
  · obtain ⟨st, g, c, n, rfl, _⟩ := h
    rfl
  · obtain ⟨st, g, c, n, rfl, S, hn, k⟩ := h
    have nd := sc__law_few.nd
    refine ⟨_, pss_one (ps_ret (pe_lc (own := [("turn", 1)]) (g := gName 1) (tt := tYes) (te := tCall (spNo 2) [] (fun _ _ _ => False) (tCons (tVar 0) tNil)) rfl nd (pi_range1 rfl T.nRange (pa_cons (pe_op op_add pe_int (pe_cD DD hr rfl pass0 (pa_cons (pv 0) (pa_cons pe_int pa_nil)))) pa_nil)) (blkOk_by (own := [("turn", 1)]) (N := nFew) (sc := defScope s__law_few) (by decide +kernel)) (fun _ _ _ _ _ => (pg_name (i := 1) nd rfl (Or.inl rfl))) (fun _ _ _ _ _ => pts_nil) (fun _ _ _ _ _ => (pe_cD DS hr rfl pass0 (pa_cons (pv 0) pa_nil))))), ?_⟩
    refine ⟨_, rfl, st, g, c, n, 3, rfl, S, by omega, by decide, by decide, fun u H1 u0 u3 S1 F1 => ?_⟩
    refine ⟨_, _, rfl, rfl, _, rfl, by omega, by omega, fun D nD => ?_⟩
    obtain ⟨m, em⟩ : ∃ m : Nat, 1 + u = (m : Int) := ⟨(1 + u).toNat, by omega⟩
    rw [em, Int.toNat_natCast]
    have zD := S1.old nD
    have sD := sadd (o := .lst []) (Same.refl H1) nD
    refine lc_range (lo := 0) (n := m) (fun i H' => ∃ ns : List Int, ns.length = i ∧ H' D = some (.lst (ns.map V.int)) ∧ (∀ z ∈ ns, Num z) ∧ SA H' st g c (n + 1 + 2 * i) ∧ Fr st g H1 H') ?h0 ?turn ?done
    case h0 => exact ⟨[], rfl, upd_same, fun z hz => absurd hz List.not_mem_nil, S1.same sD, Fr.of sD⟩
    case turn =>
      rintro i H4 hi ⟨ns, ln, hD, nm, S4, F4⟩
      refine ⟨rfl, ?_⟩
      unfold tYes
      refine iteT ?_
      refine ⟨_, rfl, st, g, c, n + 1 + 2 * i, rfl, S4, by omega, fun z H5 z0 z9 S5 F5 => ?_⟩
      have hD5 : H5 D = some (.lst (ns.map V.int)) := F5 _ _ hD zD.1 zD.2.1
      refine ⟨_, hD5, by rw [List.length_map, sizeLine_eq]; omega, ns ++ [z], by rw [List.length_append, ln]; rfl, by rw [upd_same, List.map_append]; rfl, fun y hy => ?_, (S5.put zD).mono (by omega), (F4.trans F5).out nD⟩
      rcases List.mem_append.mp hy with h | h
      · exact nm y h
      · rw [List.mem_singleton.mp h]
        exact ⟨z0, z9⟩
    case done =>
      rintro H4 ⟨ns, ln, hD, nm, S4, F4⟩
      exact k D ns H4 (F1.free nD zD.1 zD.2.1) zD.1 zD.2.1 zD.2.2 hD (by omega) (by omega) nm (S4.mono (by omega)) (F1.trans F4)
end
end OH
end
section
set_option Elab.async false
set_option linter.all false
set_option maxRecDepth 100000
set_option maxHeartbeats 8000000
/-! An error that is caught. -/
namespace OH
open PySem PySem.Spec PyProof.Rows L2
open LamX (Tabs TabS ExtN TabB CodeO)
theorem sc__law_caught : FnScope ["action", "found", "error"] ["action"] (defScope s__law_caught) := ⟨rfl, rfl, rfl, by decide +kernel, rfl, by decide +kernel, by decide +kernel⟩
/-- what is called gives its error on, whatever fields it has -/
theorem caught_givesJ {X : Cx} {q : Str} {g CS : Addr} {cdg : Value} (hme : X.mg "OwnharmError" = some (.ref CS)) :
    LamX.GivesTo X ["action", "found", "error"] "_law_caught" (defScope s__law_caught) g cdg (defBody s__law_caught) "action" q (TTj X.K CS) := by
  intro f c' s H Q tl act hc h
  have nd := sc__law_caught.nd
  refine ⟨_, pss_cons (ps_set (i := 1) nd rfl (Or.inl rfl) pe_non)
    (pss_cons (ps_try_keepJ (X := (cxOf C8.CX0 X.prog X.w X.K X.mg X.base ["action", "found", "error"] "_law_caught" (defScope s__law_caught) g cdg X.A X.stack s H C8.E0).nox) (i := 2) (c := .ref CS)
      (tb := fun W D σ H => ∃ Ech : XK, (∀ cls d σ' H', σ'.length = 3 → Ech cls d H' → W cls d σ' H') ∧ σ[0]? = some (some (.ref f)) ∧ H c' = some (LamX.CodeO c' q) ∧ tl Ech H (fun _ H1 => D.nx σ H1))
      rfl rfl rfl nd rfl rfl ⟨rfl, by decide, .inl hme⟩ (fun W pn xe tk _ => ?_) (fun a oe cls d pn _ _ => pss_one (ps_set (i := 1) nd rfl (Or.inl rfl) (pv 2))))
    (pss_one (ps_ret (pv 1)))), ?_⟩
  · refine ⟨fun pins s' σ H' D I h' => ?_⟩
    obtain ⟨Ech, hW, h1, h2, h3⟩ := h'
    have tk' : Takes _ (fun cls d σ H => σ.length = 3 → W cls d σ H) := fun u s' ⟨a, B, sI, pins, σ, H, cls, d, e, I, nb, up, sky, na, os, ag, w⟩ =>
      tk u s' ⟨a, B, sI, pins, σ, H, cls, d, e, I, nb, up, sky, na, os, ag, w I.len⟩
    exact (pss_one (ps_expr (act _ pn xe Ech _ _ tk' (fun cls d σ' H' e n => hW cls d σ' H' n e)))).run pins s' σ H' D I ⟨h1, h2, h3⟩
  · refine ⟨_, fun cls d σ' H' n e => ?_, rfl, hc, h _ fun _ _ z => ⟨.non, rfl, z⟩⟩
    obtain ⟨e2, e3⟩ := e
    refine ⟨e2, fun a na => ?_⟩
    match σ', n with
    | [y0, y1, y2], _ => exact ⟨.ref a, rfl, .ref a, rfl, e3 a na⟩
end OH
end
section
set_option Elab.async false
set_option linter.all false
set_option maxRecDepth 100000
set_option maxHeartbeats 8000000
/-! The faces of the law. -/
namespace OH
open PySem PySem.Spec PyProof.Rows L2
/-- wires of room i, where so many doors are -/
def WiOk (ds : List Int) (i : Nat) (ws : List (Int × Int)) : Prop := ws.length ≤ 8 ∧ ws.Nodup ∧ ∀ p ∈ ws, 0 ≤ p.1 ∧ p.1 < (ds.length : Int) ∧ p.1 ≠ i ∧ 0 ≤ p.2 ∧ p.2 < ds.getD p.1.toNat 0
theorem getD_app_last {α : Type} (l : List α) (x d : α) : (l ++ [x]).getD l.length d = x := by
  rw [List.getD_eq_getElem?_getD, List.getElem?_append_right (Nat.le_refl _), Nat.sub_self]
  rfl
theorem getD_app_old {α : Type} (l : List α) (x d : α) {i : Nat} (h : i < l.length) : (l ++ [x]).getD i d = l.getD i d := by
  rw [List.getD_eq_getElem?_getD, List.getElem?_append_left h, List.getD_eq_getElem?_getD]
/-- a new face -/
def spFaceD (m1 : Int) (m2 : Int) : Sp := fun vs H Q _ => ∃ (st g c : Addr) (n : Nat) (most : Int), vs = [.ref st, .int most] ∧ SA H st g c n ∧ n ≤ 700000 ∧ m1 ≤ most ∧ most ≤ m2 ∧
  ∀ (p : Addr) (F : Fc) (H' : Hp), H p = none → FcAt H' p F → SA H' st g c (n + 400) → Fr st g H H' → Q (.ref p) H'
section
variable {P : Program} {w : World} {K : PySem.W.Frag} {mg : Str → Option Value} {base : Heap}
abbrev nDF : List Str := ["state", "most", "doors", "wires", "at", "pool", "room", "many", "door"]
theorem sc__law_drawn_face : FnScope nDF ["state", "most"] (defScope s__law_drawn_face) := ⟨rfl, rfl, rfl, by decide +kernel, rfl, by decide +kernel, by decide +kernel⟩
theorem ok__law_drawn_face {f : Addr} {fd : FuncData} (F : Fun K "_law_drawn_face" "_law_drawn_face" s__law_drawn_face f fd) (T : Txt K mg) (nEnum : mg "enumerate" = none)
    (DD : DefF P w K mg base CX0 4 "_law_draw" ["state", "room"] spDraw) (DS : DefF P w K mg base CX0 4 "_law_shuffled" ["state", "some"] spShuf) (DP : DefF P w K mg base CX0 4 "_law_pick" ["state", "some"] spPick) : FnOk P w K mg base CX0 5 f fd ["state", "most"] (spFaceD 1 6) := by
  refine F.ok sc__law_drawn_face (fun vs H Q E h => ?_) (fun cdv A outer s H vs Q E hr h => ?_)
  · obtain ⟨st, g, c, n, most, rfl, _⟩ := h
    rfl
  · obtain ⟨st, g, c, n, most, rfl, S, hn, m1, m2, k⟩ := h
    have nd := sc__law_drawn_face.nd
    refine ⟨_, pss_cons (ps_set (i := 2) nd rfl (Or.inl rfl) (pe_callTy call_tuple_of (by rfl) T.nTuple (by decide +kernel) (pa_cons (pe_lc (own := [("at", 4)]) (g := gName 4) (tt := tYes) (te := tOp _ _ (tCall spDraw [] (fun _ _ _ => False) (tCons (tVar 0) (tCons (tC (V.int 3)) tNil)))) rfl nd (pi_range1 rfl T.nRange (pa_cons (pe_op op_add pe_int (pe_cD DD hr rfl pass0 (pa_cons (pv 0) (pa_cons (pv 1) pa_nil)))) pa_nil)) (blkOk_by (own := [("at", 4)]) (N := nDF) (sc := defScope s__law_drawn_face) (by decide +kernel)) (fun _ _ _ _ _ => (pg_name (i := 4) nd rfl (Or.inl rfl))) (fun _ _ _ _ _ => pts_nil) (fun _ _ _ _ _ => (pe_op op_add pe_int (pe_cD DD hr rfl pass0 (pa_cons (pv 0) (pa_cons pe_int pa_nil)))))) pa_nil)))
      (pss_cons (ps_set (i := 3) nd rfl (Or.inl rfl) (pe_lst pa_nil))
      (pss_cons (ps_for PassesOwn.never rfl (pi_range1 rfl T.nRange (pa_cons (pe_callB call_len_seq (by rfl) T.nLen PySem.boot_len (pa_cons (pv 2) pa_nil)) pa_nil)) (pg_name (i := 4) nd rfl (Or.inr rfl))
        (pss_cons (ps_set (i := 5) nd rfl (Or.inl rfl) (pe_lst pa_nil))
      (pss_cons (ps_for PassesOwn.never rfl (pi_enumT rfl nEnum (pa_cons (pv 2) pa_nil)) (pg_tup (by rfl) (pgs_cons (pg_name (i := 6) nd rfl (Or.inr rfl)) (pgs_cons (pg_name (i := 7) nd rfl (Or.inl rfl)) pgs_nil)))
        (pss_one (ps_set (i := 5) nd rfl (Or.inl rfl) (pe_op op_cat (pv 5) (pe_lc (own := [("door", 8)]) (g := gName 8)   rfl nd (pi_range1 rfl T.nRange (pa_cons (pv 7) pa_nil)) (blkOk_by (own := [("door", 8)]) (N := nDF) (sc := defScope s__law_drawn_face) (by decide +kernel)) (fun _ _ _ _ _ => (pg_name (i := 8) nd rfl (Or.inl rfl))) (fun _ _ _ _ _ => pts_one (pt_cmpR op_ne (pv 6) (pv 4) (nomark _))) (fun _ _ _ _ _ => (pe_tup (pa_cons (pv 6) (pa_cons (pv 8) pa_nil)))))))))
      (pss_one (ps_expr (pe_bm PySem.F.plainAttrs_list PySem.F.slot_list_append PySem.F.type_list_append mt_append (pv 3) (pa_cons (pe_callTy call_tuple_of (by rfl) T.nTuple (by decide +kernel) (pa_cons (pe_slice sl_list (pe_cD DS hr rfl pass0 (pa_cons (pv 0) (pa_cons (pv 5) pa_nil))) po_none (po_some (pe_cD DP hr rfl pass0 (pa_cons (pv 0) (pa_cons (pe_lst (pa_cons pe_int (pa_cons pe_int (pa_cons pe_int (pa_cons pe_int (pa_cons pe_int (pa_cons pe_int pa_nil))))))) pa_nil))))) pa_nil)) pa_nil)))))))
      (pss_one (ps_ret (pe_tup (pa_cons (pe_cD DP hr rfl pass0 (pa_cons (pv 0) (pa_cons (pe_lst (pa_cons pe_int (pa_cons pe_int (pa_cons pe_int (pa_cons pe_int (pa_cons pe_int (pa_cons pe_int (pa_cons pe_int pa_nil)))))))) pa_nil))) (pa_cons (pe_callTy call_tuple_of (by rfl) T.nTuple (by decide +kernel) (pa_cons (pv 3) pa_nil)) (pa_cons (pv 2) pa_nil)))))))), ?_⟩
    refine ⟨_, rfl, _, rfl, st, g, c, n, most, rfl, S, by omega, by omega, by omega, fun u H1 u0 u1 S1 F1 => ?_⟩
    obtain ⟨m, em⟩ : ∃ m : Nat, 1 + u = (m : Int) := ⟨(1 + u).toNat, by omega⟩
    refine ⟨_, _, rfl, rfl, _, rfl, by omega, by omega, fun D nD => ?_⟩
    rw [em, Int.toNat_natCast]
    have hm1 : 1 ≤ m := by omega
    have hm6 : m ≤ 6 := by omega
    have zD := S1.old nD
    have D0 : H D = none := F1.free nD zD.1 zD.2.1
    have sD := sadd (o := .lst []) (Same.refl H1) nD
    refine lc_range (lo := 0) (n := m) (fun i H' => ∃ ns : List Int, ns.length = i ∧ H' D = some (.lst (ns.map V.int)) ∧ (∀ z ∈ ns, 1 ≤ z ∧ z ≤ 6) ∧ SA H' st g c (n + 1 + i) ∧ Fr st g H1 H') ?d0 ?dturn ?ddone
    case d0 => exact ⟨[], rfl, upd_same, fun z hz => absurd hz List.not_mem_nil, S1.same sD, Fr.of sD⟩
    case dturn =>
      rintro i H4 hi ⟨ns, ln, hD, nm, S4, F4⟩
      refine ⟨rfl, ?_⟩
      unfold tYes
      refine iteT ?_
      refine ⟨_, rfl, st, g, c, n + 1 + i, 3, rfl, S4, by omega, by decide, by decide, fun z H5 z0 z9 S5 F5 => ?_⟩
      have hD5 : H5 D = some (.lst (ns.map V.int)) := F5 _ _ hD zD.1 zD.2.1
      refine ⟨_, _, rfl, rfl, _, hD5, by rw [List.length_map, sizeLine_eq]; omega, ns ++ [1 + z], by rw [List.length_append, ln]; rfl, by rw [upd_same, List.map_append]; rfl, fun y hy => ?_, (S5.put zD).mono (by omega), (F4.trans F5).out nD⟩
      rcases List.mem_append.mp hy with h | h
      · exact nm y h
      · rw [List.mem_singleton.mp h]
        exact ⟨by omega, by omega⟩
    case ddone =>
    rintro H2 ⟨ds, lds, hD, hd, S2, F2⟩
    refine ⟨D, _, rfl, .inl ⟨SqL.of hD, fun dt ndt => ?_⟩⟩
    have zdt := S2.old ndt
    have sdt := sadd (o := .tup (ds.map V.int)) (Same.refl H2) ndt
    have hdt : upd H2 dt (.tup (ds.map V.int)) dt = some (.tup (ds.map V.int)) := upd_same
    have S3 := S2.same sdt
    have F3 := (F1.trans F2).trans (Fr.of (st := st) (g := g) sdt)
    have dt0 : H dt = none := (F1.trans F2).free ndt zdt.1 zdt.2.1
    generalize upd H2 dt (.tup (ds.map V.int)) = Ha at hdt S3 F3
    clear sdt hD F2 S2
    refine ⟨(by show 0 ≤ sizeLine; decide), fun W nW => ?_⟩
    have zW := S3.old nW
    have sW := sadd (o := .lst []) (Same.refl Ha) nW
    have hW0 : upd Ha W (.lst []) W = some (.lst []) := upd_same
    have W0 : H W = none := F3.free nW zW.1 zW.2.1
    have hdtW := sW _ _ hdt
    have ndtW : dt ≠ W := ne_of_none hdt nW
    have SW := S3.same sW
    have FW := F3.trans (Fr.of (st := st) (g := g) sW)
    generalize upd Ha W (.lst []) = Hb at hW0 hdtW SW FW ⊢
    have la : (ds.map V.int).length = ds.length := List.length_map ..
    have lds6 : ds.length ≤ 6 := by omega
    refine ⟨_, rfl, dt, _, rfl, .inr (SqT.of hdtW), _, rfl, (by omega), (by rw [la]; omega), ?_⟩
    rw [la]
    refine for_range (lo := 0) (n := ds.length) (fun i σ H' => ∃ (o4 o5 o6 o7 : Option V) (wps : List Addr) (wss : List (List (Int × Int))), σ = [some (.ref st), some (.int most), some (.ref dt), some (.ref W), o4, o5, o6, o7, none] ∧ wps.length = i ∧ wss.length = i ∧
        H' W = some (.lst (wps.map V.ref)) ∧ (∀ (j : Nat) (q : Addr), wps[j]? = some q → ∃ ps : List Addr, H' q = some (.tup (ps.map V.ref)) ∧ PairsAt H' ps (wss.getD j [])) ∧ (∀ j, j < i → WiOk ds j (wss.getD j [])) ∧
        SA H' st g c (n + 7 + 40 * i) ∧ H' dt = some (.tup (ds.map V.int)) ∧ Fr st g H H') ?h0 ?turn ?done
    case h0 => exact ⟨_, _, _, _, [], [], rfl, rfl, rfl, hW0, (fun j q e => absurd (List.mem_of_getElem? e) List.not_mem_nil), (fun j hj => absurd hj (Nat.not_lt_zero _)), SW.mono (by omega), hdtW, FW⟩
    case turn =>
      rintro i σ H1 hi ⟨o4, o5, o6, o7, wps, wss, rfl, l1, l2, hW1, hw, hok, S1, hdt1, F1⟩
      rw [Int.zero_add]
      refine ⟨(by show 0 ≤ sizeLine; decide), fun L nL => ?_⟩
      have sL := sadd (o := .lst []) (Same.refl H1) nL
      have hL0 : upd H1 L (.lst []) L = some (.lst []) := upd_same
      have zL := S1.old nL
      generalize upd H1 L (.lst []) = H2 at sL hL0 ⊢
      refine ⟨_, rfl, dt, _, rfl, SqT.of (sL _ _ hdt1), ?_⟩
      refine for_it walk_enumT (fun j σ H' => ∃ (o6 o7 : Option V) (L' : Addr) (ps : List Addr) (qs : List (Int × Int)), σ = [some (.ref st), some (.int most), some (.ref dt), some (.ref W), some (.int (i : Int)), some (.ref L'), o6, o7, none] ∧
          Same H1 H' ∧ H1 L' = none ∧ H' L' = some (.lst (ps.map V.ref)) ∧ PairsAt H' ps qs ∧ qs.Nodup ∧ qs.length ≤ 6 * j ∧ ∀ p ∈ qs, 0 ≤ p.1 ∧ p.1 < (j : Int) ∧ p.1 ≠ i ∧ 0 ≤ p.2 ∧ p.2 < ds.getD p.1.toNat 0) ?g0 (fun j σ H' _ ⟨_, _, _, _, _, _, s, _⟩ => SqT.of (s _ _ hdt1)) ?gturn ?gdone
      case g0 => exact ⟨o6, o7, L, [], [], rfl, sL, nL, hL0, .nil, List.nodup_nil, Nat.zero_le _, fun p hp => absurd hp List.not_mem_nil⟩
      case gturn =>
        rintro j x σ H3 H3' hj ⟨o6, o7, L', ps, qs, rfl, s3, nL', hL', hp, nq, lq, hq⟩ ⟨tp, x0, y0, rfl, ntp, rfl, ex, ey⟩
        rw [la] at hj
        cases ex
        obtain ⟨z, hz⟩ : ∃ z, ds[j]? = some z := ⟨_, List.getElem?_eq_getElem hj⟩
        have ey' : y0 = .int z := by
          have ey2 : (ds.map V.int)[j]? = some y0 := ey
          rw [List.getElem?_map, hz] at ey2
          exact (Option.some.inj ey2).symm
        subst ey'
        obtain ⟨z1, z6⟩ := hd z (List.mem_of_getElem? hz)
        have gz : ds.getD j 0 = z := by rw [List.getD_eq_getElem?_getD, hz]; rfl
        obtain ⟨zn, hzn⟩ : ∃ zn : Nat, z = zn := ⟨z.toNat, by omega⟩
        subst hzn
        have st3 := sadd (o := .tup [.int (j : Int), .int (zn : Int)]) (Same.refl H3) ntp
        have htp : upd H3 tp (.tup [.int (j : Int), .int (zn : Int)]) tp = some (.tup [.int (j : Int), .int (zn : Int)]) := upd_same
        replace s3 := s3.trans st3
        replace hL' := st3 _ _ hL'
        replace hp := hp.mono fun q xs e => st3 _ _ e
        generalize upd H3 tp (.tup [.int (j : Int), .int (zn : Int)]) = H3 at s3 hL' hp htp ⊢
        refine ⟨tp, _, rfl, SqT.of htp, rfl, _, _, rfl, _, _, rfl, rfl, ?_⟩
        refine ⟨_, rfl, _, rfl, _, rfl, (by omega), (by omega), fun C nC => ?_⟩
        rw [Int.toNat_natCast]
        refine lc_range (lo := 0) (n := zn) (fun d H' => Same H3 H' ∧ ∃ (p2 : List Addr) (q2 : List (Int × Int)), H' C = some (.lst (p2.map V.ref)) ∧ PairsAt H' p2 q2 ∧ q2.Nodup ∧ q2.length ≤ d ∧ ∀ p ∈ q2, p.1 = j ∧ j ≠ i ∧ 0 ≤ p.2 ∧ p.2 < (d : Int))
          ⟨sadd (Same.refl H3) nC, [], [], upd_same, .nil, List.nodup_nil, Nat.le_refl _, fun p hp => absurd hp List.not_mem_nil⟩ ?cturn ?cdone
        case cturn =>
          rintro d H4 hdz ⟨s4, p2, q2, hC, hp2, n2, l2', hq2⟩
          rw [Int.zero_add]
          refine ⟨rfl, ?_⟩
          refine ⟨_, rfl, _, rfl, rfl, _, rfl, ?_⟩
          refine ite2 (fun ht => ?_) (fun ht => ?_)
          · have hne : j ≠ i := fun e => by
              subst e
              simp at ht
            refine ⟨_, rfl, _, rfl, (by show 2 ≤ sizeLine; decide), fun t nt => ?_⟩
            have s5 := sadd (o := .tup [.int (j : Int), .int (d : Int)]) (Same.refl H4) nt
            have ht5 : upd H4 t (.tup [.int (j : Int), .int (d : Int)]) t = some (.tup [.int (j : Int), .int (d : Int)]) := upd_same
            have hC5 := s5 _ _ hC
            have hp5 := hp2.mono fun q xs e => s5 _ _ e
            generalize upd H4 t (.tup [.int (j : Int), .int (d : Int)]) = H5 at s5 ht5 hC5 hp5 ⊢
            have lp := hp5.len
            have kt : ∀ (o : List V) q xs, H5 q = some (.tup xs) → upd H5 C (.lst o) q = some (.tup xs) := fun o q xs e => (upd_ne (ne_of e hC5 (fun y => nomatch y))).trans e
            refine ⟨_, hC5, (by rw [List.length_map, lp, sizeLine_eq]; omega), sout (s4.trans s5) nC, p2 ++ [t], q2 ++ [((j : Int), (d : Int))], by rw [upd_same, List.map_append]; rfl, (hp5.mono (kt _)).app (kt _ _ _ ht5), ?_, ?_, ?_⟩
            · rw [List.nodup_append]
              refine ⟨n2, List.nodup_cons.mpr ⟨List.not_mem_nil, List.nodup_nil⟩, fun x hx y hy e => ?_⟩
              rw [List.mem_singleton.mp hy] at e
              have := (hq2 x hx).2.2.2
              rw [e] at this
              have this' : (d : Int) < d := this
              omega
            · rw [List.length_append]
              show q2.length + 1 ≤ d + 1
              omega
            · intro p hp
              rcases List.mem_append.mp hp with hp | hp
              · obtain ⟨a1, a2, a3, a4⟩ := hq2 p hp
                exact ⟨a1, a2, a3, by omega⟩
              · rw [List.mem_singleton.mp hp]
                exact ⟨rfl, hne, by show (0 : Int) ≤ (d : Int); omega, by show (d : Int) < ((d + 1 : Nat) : Int); omega⟩
          · exact ⟨s4, p2, q2, hC, hp2, n2, by omega, fun p hp => by
              obtain ⟨a1, a2, a3, a4⟩ := hq2 p hp
              exact ⟨a1, a2, a3, by omega⟩⟩
        case cdone =>
          rintro H4 ⟨s4, p2, q2, hC, hp2, n2, l2', hq2⟩
          have lp := hp.len
          have lp2 := hp2.len
          have zn6 : zn ≤ 6 := by omega
          refine ⟨L', C, _, _, rfl, rfl, s4 _ _ hL', hC, (by rw [List.length_map, List.length_map, lp, lp2, sizeLine_eq]; omega), fun M nM => ?_⟩
          have s5 := sadd (o := .lst (ps.map V.ref ++ p2.map V.ref)) (Same.refl H4) nM
          have M1 : H1 M = none := (s3.trans s4).free nM
          refine ⟨_, _, M, ps ++ p2, qs ++ q2, rfl, (s3.trans s4).trans s5, M1, by rw [upd_same, List.map_append], ?_, ?_, ?_, ?_⟩
          · exact (hp.mono fun q xs e => s5 _ _ (s4 _ _ e)).apps (hp2.mono fun q xs e => s5 _ _ e)
          · rw [List.nodup_append]
            refine ⟨nq, n2, fun x hx y hy e => ?_⟩
            have h1 := (hq x hx).2.1
            have h2 := (hq2 y hy).1
            rw [e, h2] at h1
            omega
          · rw [List.length_append]
            omega
          · intro p hp'
            rcases List.mem_append.mp hp' with hp' | hp'
            · obtain ⟨a1, a2, a3, a4, a5⟩ := hq p hp'
              exact ⟨a1, by omega, a3, a4, a5⟩
            · obtain ⟨a1, a2, a3, a4⟩ := hq2 p hp'
              refine ⟨by omega, by omega, fun e => a2 (by omega), a3, ?_⟩
              rw [a1, Int.toNat_natCast, gz]
              exact a4
      case gdone =>
        rintro σ H3 ⟨o6', o7', L', ps, qs, rfl, s3, nL', hL', hp, nq, lq, hq⟩
        rw [la] at lq hq
        have S3' := S1.same s3
        have lp := hp.len
        refine ⟨_, rfl, .inl ⟨rfl, _, SqL.of (s3 _ _ hW1)⟩, ?_⟩
        have zL' := S1.old nL'
        refine ⟨_, rfl, _, rfl, st, g, c, L', n + 7 + 40 * i, ps, qs, rfl, S3', by omega, hL', hp, zL'.2.1, by omega, fun p ps' qs' H4 np z1 z2 z3 hp4 hps' pm S4 F4 => ?_⟩
        refine ⟨_, rfl, (by show 6 ≤ sizeLine; decide), fun l nl => ?_⟩
        have zl := S4.old nl
        have sl := sadd (o := .lst [.int 1, .int 2, .int 3, .int 8, .int 8, .int 0]) (Same.refl H4) nl
        refine ⟨st, g, c, l, n + 7 + 40 * i + ps.length, _, rfl, S4.put zl, by omega, upd_same, zl.2.1, (by show 0 < 6; decide), (by show 6 ≤ 1000000; decide), fun x H5 hx S5 F5 => ?_⟩
        obtain ⟨kn, rfl, hkn⟩ : ∃ kn : Nat, x = .int (kn : Int) ∧ kn ≤ 8 := by
          have hx' : x ∈ ([.int 1, .int 2, .int 3, .int 8, .int 8, .int 0] : List V) := hx
          simp only [List.mem_cons, List.not_mem_nil, or_false] at hx'
          rcases hx' with rfl | rfl | rfl | rfl | rfl | rfl
          · exact ⟨1, rfl, by decide⟩
          · exact ⟨2, rfl, by decide⟩
          · exact ⟨3, rfl, by decide⟩
          · exact ⟨8, rfl, by decide⟩
          · exact ⟨8, rfl, by decide⟩
          · exact ⟨0, rfl, by decide⟩
        have hp5 := F5 p _ (sl _ _ hp4) z1 z2
        have hps5 := (hps'.mono fun q xs e => sl _ _ e).mono (fr_tup (S4.put zl) F5)
        have F4l : Fr st g H3 (upd H4 l (.lst [.int 1, .int 2, .int 3, .int 8, .int 8, .int 0])) := F4.trans (Fr.of sl)
        have F35 : Fr st g H3 H5 := F4l.trans F5
        refine ⟨_, rfl, p, _, rfl, SqL.of hp5, fun u nu => ?_⟩
        rw [cutV_take, ← List.map_take]
        have su := sadd (o := .lst ((ps'.take kn).map V.ref)) (Same.refl H5) nu
        have hu : upd H5 u (.lst ((ps'.take kn).map V.ref)) u = some (.lst ((ps'.take kn).map V.ref)) := upd_same
        have S6 := S5.same su
        have hps6 := (hps5.taken kn).mono fun q xs e => su _ _ e
        generalize upd H5 u (.lst ((ps'.take kn).map V.ref)) = H6 at su hu S6 hps6 ⊢
        refine ⟨u, _, rfl, .inl ⟨SqL.of hu, fun v nv => ?_⟩⟩
        have sv := sadd (o := .tup ((ps'.take kn).map V.ref)) (Same.refl H6) nv
        have hv : upd H6 v (.tup ((ps'.take kn).map V.ref)) v = some (.tup ((ps'.take kn).map V.ref)) := upd_same
        have S7 := S6.same sv
        have hps7 := hps6.mono fun q xs e => sv _ _ e
        have F15 : Fr st g H1 H5 := (Fr.of s3).trans F35
        have F17 := (F15.trans (Fr.of su)).trans (Fr.of sv)
        generalize upd H6 v (.tup ((ps'.take kn).map V.ref)) = H7 at sv hv S7 hps7 F17 ⊢
        have hD7 := F17 W _ hW1 zW.1 zW.2.1
        refine ⟨W, _, _, rfl, rfl, hD7, (by rw [List.length_map, l1, sizeLine_eq]; omega), ?_⟩
        have kt : ∀ (o : List V) q xs, H7 q = some (.tup xs) → upd H7 W (.lst o) q = some (.tup xs) := fun o q xs e => (upd_ne (ne_of e hD7 (fun y => nomatch y))).trans e
        have lqs : qs.length ≤ 36 := by omega
        refine ⟨_, _, _, _, wps ++ [v], wss ++ [qs'.take kn], rfl, by rw [List.length_append, l1]; rfl, by rw [List.length_append, l2]; rfl, by rw [upd_same, List.map_append]; rfl, fun j q hq' => ?_, fun j hj => ?_, ?_, (upd_ne ndtW).trans (F17 dt _ hdt1 zdt.1 zdt.2.1), ?_⟩
        · by_cases hj : j < wps.length
          · rw [List.getElem?_append_left hj] at hq'
            obtain ⟨ps0, e1, e2⟩ := hw j q hq'
            rw [getD_app_old _ _ _ (by omega)]
            have t17 : ∀ q xs, H1 q = some (.tup xs) → H7 q = some (.tup xs) := fr_tup S1 F17
            exact ⟨ps0, kt _ _ _ (t17 _ _ e1), e2.mono fun q xs e => kt _ _ _ (t17 _ _ e)⟩
          · have ej : j = i := by
              have := (List.getElem?_eq_some_iff.mp hq').1
              rw [List.length_append] at this
              have : ([v] : List Addr).length = 1 := rfl
              omega
            subst ej
            rw [List.getElem?_append_right (by omega), l1, Nat.sub_self] at hq'
            cases hq'
            rw [show (wss ++ [qs'.take kn]).getD j [] = qs'.take kn by rw [← l2]; exact getD_app_last ..]
            exact ⟨ps'.take kn, kt _ _ _ hv, hps7.mono (kt _)⟩
        · by_cases hji : j < i
          · rw [getD_app_old _ _ _ (by omega)]
            exact hok j hji
          · rw [show j = wss.length by omega, getD_app_last, l2]
            refine ⟨by rw [List.length_take]; omega, ((pm.nodup_iff).mpr nq).sublist (List.take_sublist _ _), fun p hp' => hq p (pm.mem_iff.mp (List.mem_of_mem_take hp'))⟩
        · exact (S7.put zW).mono (by omega)
        · intro b o e h1 h2
          have nb : b ≠ W := ne_of_none e W0
          exact (upd_ne nb).trans ((F1.trans F17) b o e h1 h2)
    case done =>
      rintro σ H1 ⟨o4, o5, o6, o7, wps, wss, rfl, l1, l2, hW1, hw, hok, S1, hdt1, F1⟩
      refine ⟨_, rfl, (by show 7 ≤ sizeLine; decide), fun l nl => ?_⟩
      have zl := S1.old nl
      have sl := sadd (o := .lst [.int 1, .int 2, .int 3, .int 4, .int 5, .int 60, .int 7]) (Same.refl H1) nl
      have tl := fr_tup S1 (Fr.of (st := st) (g := g) sl)
      refine ⟨st, g, c, l, n + 7 + 40 * ds.length, _, rfl, S1.put zl, by omega, upd_same, zl.2.1, (by show 0 < 7; decide), (by show 7 ≤ 1000000; decide), fun x H2 hx S2 F2 => ?_⟩
      obtain ⟨dep, rfl, d1, d60⟩ : ∃ dep : Int, x = .int dep ∧ 1 ≤ dep ∧ dep ≤ 60 := by
        have hx' : x ∈ ([.int 1, .int 2, .int 3, .int 4, .int 5, .int 60, .int 7] : List V) := hx
        simp only [List.mem_cons, List.not_mem_nil, or_false] at hx'
        rcases hx' with rfl | rfl | rfl | rfl | rfl | rfl | rfl
        all_goals exact ⟨_, rfl, by decide, by decide⟩
      have tl2 := fr_tup (S1.put (o := .lst [.int 1, .int 2, .int 3, .int 4, .int 5, .int 60, .int 7]) zl) F2
      have F12 : Fr st g H1 H2 := (Fr.of sl).trans F2
      have F02 := F1.trans F12
      have hW2 := F12 W _ hW1 zW.1 zW.2.1
      refine ⟨_, rfl, W, _, rfl, .inl ⟨SqL.of hW2, fun p np => ?_⟩⟩
      have zp := S2.old np
      have sp := sadd (o := .tup (wps.map V.ref)) (Same.refl H2) np
      have hp : upd H2 p (.tup (wps.map V.ref)) p = some (.tup (wps.map V.ref)) := upd_same
      have S3 := S2.same sp
      have F03 := F02.trans (Fr.of (st := st) (g := g) sp)
      have t13 : ∀ q xs, H1 q = some (.tup xs) → upd H2 p (.tup (wps.map V.ref)) q = some (.tup xs) := fun q xs e => sp _ _ (tl2 _ _ (tl _ _ e))
      generalize upd H2 p (.tup (wps.map V.ref)) = H3 at hp S3 F03 t13 ⊢
      refine ⟨_, rfl, (by show 3 ≤ sizeLine; decide), fun u nu => ?_⟩
      have zu := S3.old nu
      have su := sadd (o := .tup [.int dep, .ref p, .ref dt]) (Same.refl H3) nu
      refine k u ⟨dep, wss, ds⟩ _ (F03.free nu zu.1 zu.2.1) ⟨⟨p, dt, wps, upd_same, su _ _ hp, su _ _ (t13 _ _ hdt1), l1, fun i q e => ?_⟩, ?_⟩ ((S3.same su).mono (by omega)) (F03.trans (Fr.of su))
      · obtain ⟨ps, e1, e2⟩ := hw i q e
        exact ⟨ps, su _ _ (t13 _ _ e1), e2.mono fun q xs z => su _ _ (t13 _ _ z)⟩
      · have hl : ds.length = m := lds
        exact ⟨d1, d60, l2, by show 1 ≤ ds.length; omega, by show ds.length ≤ 6; omega, hd, hok⟩
end
end OH
end
section
set_option Elab.async false
set_option linter.all false
set_option maxRecDepth 100000
set_option maxHeartbeats 8000000
/-! The other face of the law. -/
namespace OH
open PySem PySem.Spec PyProof.Rows L2
section
variable {P : Program} {w : World} {K : PySem.W.Frag} {mg : Str → Option Value} {base : Heap}
abbrev nOF : List Str := ["state", "many", "doors", "wires", "at", "pool", "room", "count", "door"]
theorem sc__law_open_face : FnScope nOF ["state", "many"] (defScope s__law_open_face) := ⟨rfl, rfl, rfl, by decide +kernel, rfl, by decide +kernel, by decide +kernel⟩
theorem ok__law_open_face {f : Addr} {fd : FuncData} (F : Fun K "_law_open_face" "_law_open_face" s__law_open_face f fd) (T : Txt K mg) (nEnum : mg "enumerate" = none)
    (DD : DefF P w K mg base CX0 4 "_law_draw" ["state", "room"] spDraw) (DS : DefF P w K mg base CX0 4 "_law_shuffled" ["state", "some"] spShuf) (DP : DefF P w K mg base CX0 4 "_law_pick" ["state", "some"] spPick) : FnOk P w K mg base CX0 5 f fd ["state", "many"] (spFaceD 2 4) := by
  refine F.ok sc__law_open_face (fun vs H Q E h => ?_) (fun cdv A outer s H vs Q E hr h => ?_)
  · obtain ⟨st, g, c, n, most, rfl, _⟩ := h
    rfl
  · obtain ⟨st, g, c, n, most, rfl, S, hn, m1, m2, k⟩ := h
    have nd := sc__law_open_face.nd
    refine ⟨_, pss_cons (ps_set (i := 2) nd rfl (Or.inl rfl) (pe_callTy call_tuple_of (by rfl) T.nTuple (by decide +kernel) (pa_cons (pe_lc (own := [("at", 4)]) (g := gName 4) (tt := tYes) (te := tOp _ _ (tCall spDraw [] (fun _ _ _ => False) (tCons (tVar 0) (tCons (tC (V.int 2)) tNil)))) rfl nd (pi_range1 rfl T.nRange (pa_cons (pv 1) pa_nil)) (blkOk_by (own := [("at", 4)]) (N := nOF) (sc := defScope s__law_open_face) (by decide +kernel)) (fun _ _ _ _ _ => (pg_name (i := 4) nd rfl (Or.inl rfl))) (fun _ _ _ _ _ => pts_nil) (fun _ _ _ _ _ => (pe_op op_add pe_int (pe_cD DD hr rfl pass0 (pa_cons (pv 0) (pa_cons pe_int pa_nil)))))) pa_nil)))
      (pss_cons (ps_set (i := 3) nd rfl (Or.inl rfl) (pe_lst pa_nil))
      (pss_cons (ps_for PassesOwn.never rfl (pi_range1 rfl T.nRange (pa_cons (pv 1) pa_nil)) (pg_name (i := 4) nd rfl (Or.inr rfl))
        (pss_cons (ps_set (i := 5) nd rfl (Or.inl rfl) (pe_lst pa_nil))
      (pss_cons (ps_for PassesOwn.never rfl (pi_enumT rfl nEnum (pa_cons (pv 2) pa_nil)) (pg_tup (by rfl) (pgs_cons (pg_name (i := 6) nd rfl (Or.inr rfl)) (pgs_cons (pg_name (i := 7) nd rfl (Or.inl rfl)) pgs_nil)))
        (pss_one (ps_set (i := 5) nd rfl (Or.inl rfl) (pe_op op_cat (pv 5) (pe_lc (own := [("door", 8)]) (g := gName 8)   rfl nd (pi_range1 rfl T.nRange (pa_cons (pv 7) pa_nil)) (blkOk_by (own := [("door", 8)]) (N := nOF) (sc := defScope s__law_open_face) (by decide +kernel)) (fun _ _ _ _ _ => (pg_name (i := 8) nd rfl (Or.inl rfl))) (fun _ _ _ _ _ => pts_one (pt_cmpR op_ne (pv 6) (pv 4) (nomark _))) (fun _ _ _ _ _ => (pe_tup (pa_cons (pv 6) (pa_cons (pv 8) pa_nil)))))))))
      (pss_one (ps_expr (pe_bm PySem.F.plainAttrs_list PySem.F.slot_list_append PySem.F.type_list_append mt_append (pv 3) (pa_cons (pe_callTy call_tuple_of (by rfl) T.nTuple (by decide +kernel) (pa_cons (pe_slice sl_list (pe_cD DS hr rfl pass0 (pa_cons (pv 0) (pa_cons (pv 5) pa_nil))) po_none (po_some pe_int)) pa_nil)) pa_nil)))))))
      (pss_one (ps_ret (pe_tup (pa_cons (pe_cD DP hr rfl pass0 (pa_cons (pv 0) (pa_cons (pe_lst (pa_cons pe_int (pa_cons pe_int (pa_cons pe_int (pa_cons pe_int (pa_cons pe_int pa_nil)))))) pa_nil))) (pa_cons (pe_callTy call_tuple_of (by rfl) T.nTuple (by decide +kernel) (pa_cons (pv 3) pa_nil)) (pa_cons (pv 2) pa_nil)))))))), ?_⟩
    obtain ⟨m, em⟩ : ∃ m : Nat, most = (m : Int) := ⟨most.toNat, by omega⟩
    subst em
    have hm1 : 1 ≤ m := by omega
    have hm6 : m ≤ 6 := by omega
    obtain ⟨H1, eH1, S1, F1⟩ : ∃ H1, H1 = H ∧ SA H1 st g c (n + 1) ∧ Fr st g H H1 := ⟨H, rfl, S.mono (Nat.le_succ n), Fr.refl st g H⟩
    refine ⟨_, rfl, _, rfl, by omega, by omega, fun D nD => ?_⟩
    rw [Int.toNat_natCast, ← eH1]
    rw [← eH1] at nD
    have zD := S1.old nD
    have D0 : H D = none := F1.free nD zD.1 zD.2.1
    have sD := sadd (o := .lst []) (Same.refl H1) nD
    refine lc_range (lo := 0) (n := m) (fun i H' => ∃ ns : List Int, ns.length = i ∧ H' D = some (.lst (ns.map V.int)) ∧ (∀ z ∈ ns, 1 ≤ z ∧ z ≤ 6) ∧ SA H' st g c (n + 1 + i) ∧ Fr st g H1 H') ?d0 ?dturn ?ddone
    case d0 => exact ⟨[], rfl, upd_same, fun z hz => absurd hz List.not_mem_nil, S1.same sD, Fr.of sD⟩
    case dturn =>
      rintro i H4 hi ⟨ns, ln, hD, nm, S4, F4⟩
      refine ⟨rfl, ?_⟩
      unfold tYes
      refine iteT ?_
      refine ⟨_, rfl, st, g, c, n + 1 + i, 2, rfl, S4, by omega, by decide, by decide, fun z H5 z0 z9 S5 F5 => ?_⟩
      have hD5 : H5 D = some (.lst (ns.map V.int)) := F5 _ _ hD zD.1 zD.2.1
      refine ⟨_, _, rfl, rfl, _, hD5, by rw [List.length_map, sizeLine_eq]; omega, ns ++ [1 + z], by rw [List.length_append, ln]; rfl, by rw [upd_same, List.map_append]; rfl, fun y hy => ?_, (S5.put zD).mono (by omega), (F4.trans F5).out nD⟩
      rcases List.mem_append.mp hy with h | h
      · exact nm y h
      · rw [List.mem_singleton.mp h]
        exact ⟨by omega, by omega⟩
    case ddone =>
    rintro H2 ⟨ds, lds, hD, hd, S2, F2⟩
    refine ⟨D, _, rfl, .inl ⟨SqL.of hD, fun dt ndt => ?_⟩⟩
    have zdt := S2.old ndt
    have sdt := sadd (o := .tup (ds.map V.int)) (Same.refl H2) ndt
    have hdt : upd H2 dt (.tup (ds.map V.int)) dt = some (.tup (ds.map V.int)) := upd_same
    have S3 := S2.same sdt
    have F3 := (F1.trans F2).trans (Fr.of (st := st) (g := g) sdt)
    have dt0 : H dt = none := (F1.trans F2).free ndt zdt.1 zdt.2.1
    generalize upd H2 dt (.tup (ds.map V.int)) = Ha at hdt S3 F3
    clear sdt hD F2 S2
    refine ⟨(by show 0 ≤ sizeLine; decide), fun W nW => ?_⟩
    have zW := S3.old nW
    have sW := sadd (o := .lst []) (Same.refl Ha) nW
    have hW0 : upd Ha W (.lst []) W = some (.lst []) := upd_same
    have W0 : H W = none := F3.free nW zW.1 zW.2.1
    have hdtW := sW _ _ hdt
    have ndtW : dt ≠ W := ne_of_none hdt nW
    have SW := S3.same sW
    have FW := F3.trans (Fr.of (st := st) (g := g) sW)
    generalize upd Ha W (.lst []) = Hb at hW0 hdtW SW FW ⊢
    have la : (ds.map V.int).length = ds.length := List.length_map ..
    have lds6 : ds.length ≤ 6 := by omega
    refine ⟨_, rfl, _, rfl, by omega, by omega, ?_⟩
    rw [Int.toNat_natCast, ← lds]
    refine for_range (lo := 0) (n := ds.length) (fun i σ H' => ∃ (o4 o5 o6 o7 : Option V) (wps : List Addr) (wss : List (List (Int × Int))), σ = [some (.ref st), some (.int (ds.length : Int)), some (.ref dt), some (.ref W), o4, o5, o6, o7, none] ∧ wps.length = i ∧ wss.length = i ∧
        H' W = some (.lst (wps.map V.ref)) ∧ (∀ (j : Nat) (q : Addr), wps[j]? = some q → ∃ ps : List Addr, H' q = some (.tup (ps.map V.ref)) ∧ PairsAt H' ps (wss.getD j [])) ∧ (∀ j, j < i → WiOk ds j (wss.getD j [])) ∧
        SA H' st g c (n + 7 + 40 * i) ∧ H' dt = some (.tup (ds.map V.int)) ∧ Fr st g H H') ?h0 ?turn ?done
    case h0 => exact ⟨_, _, _, _, [], [], rfl, rfl, rfl, hW0, (fun j q e => absurd (List.mem_of_getElem? e) List.not_mem_nil), (fun j hj => absurd hj (Nat.not_lt_zero _)), SW.mono (by omega), hdtW, FW⟩
    case turn =>
      rintro i σ H1 hi ⟨o4, o5, o6, o7, wps, wss, rfl, l1, l2, hW1, hw, hok, S1, hdt1, F1⟩
      rw [Int.zero_add]
      refine ⟨(by show 0 ≤ sizeLine; decide), fun L nL => ?_⟩
      have sL := sadd (o := .lst []) (Same.refl H1) nL
      have hL0 : upd H1 L (.lst []) L = some (.lst []) := upd_same
      have zL := S1.old nL
      generalize upd H1 L (.lst []) = H2 at sL hL0 ⊢
      refine ⟨_, rfl, dt, _, rfl, SqT.of (sL _ _ hdt1), ?_⟩
      refine for_it walk_enumT (fun j σ H' => ∃ (o6 o7 : Option V) (L' : Addr) (ps : List Addr) (qs : List (Int × Int)), σ = [some (.ref st), some (.int (ds.length : Int)), some (.ref dt), some (.ref W), some (.int (i : Int)), some (.ref L'), o6, o7, none] ∧
          Same H1 H' ∧ H1 L' = none ∧ H' L' = some (.lst (ps.map V.ref)) ∧ PairsAt H' ps qs ∧ qs.Nodup ∧ qs.length ≤ 6 * j ∧ ∀ p ∈ qs, 0 ≤ p.1 ∧ p.1 < (j : Int) ∧ p.1 ≠ i ∧ 0 ≤ p.2 ∧ p.2 < ds.getD p.1.toNat 0) ?g0 (fun j σ H' _ ⟨_, _, _, _, _, _, s, _⟩ => SqT.of (s _ _ hdt1)) ?gturn ?gdone
      case g0 => exact ⟨o6, o7, L, [], [], rfl, sL, nL, hL0, .nil, List.nodup_nil, Nat.zero_le _, fun p hp => absurd hp List.not_mem_nil⟩
      case gturn =>
        rintro j x σ H3 H3' hj ⟨o6, o7, L', ps, qs, rfl, s3, nL', hL', hp, nq, lq, hq⟩ ⟨tp, x0, y0, rfl, ntp, rfl, ex, ey⟩
        rw [la] at hj
        cases ex
        obtain ⟨z, hz⟩ : ∃ z, ds[j]? = some z := ⟨_, List.getElem?_eq_getElem hj⟩
        have ey' : y0 = .int z := by
          have ey2 : (ds.map V.int)[j]? = some y0 := ey
          rw [List.getElem?_map, hz] at ey2
          exact (Option.some.inj ey2).symm
        subst ey'
        obtain ⟨z1, z6⟩ := hd z (List.mem_of_getElem? hz)
        have gz : ds.getD j 0 = z := by rw [List.getD_eq_getElem?_getD, hz]; rfl
        obtain ⟨zn, hzn⟩ : ∃ zn : Nat, z = zn := ⟨z.toNat, by omega⟩
        subst hzn
        have st3 := sadd (o := .tup [.int (j : Int), .int (zn : Int)]) (Same.refl H3) ntp
        have htp : upd H3 tp (.tup [.int (j : Int), .int (zn : Int)]) tp = some (.tup [.int (j : Int), .int (zn : Int)]) := upd_same
        replace s3 := s3.trans st3
        replace hL' := st3 _ _ hL'
        replace hp := hp.mono fun q xs e => st3 _ _ e
        generalize upd H3 tp (.tup [.int (j : Int), .int (zn : Int)]) = H3 at s3 hL' hp htp ⊢
        refine ⟨tp, _, rfl, SqT.of htp, rfl, _, _, rfl, _, _, rfl, rfl, ?_⟩
        refine ⟨_, rfl, _, rfl, _, rfl, (by omega), (by omega), fun C nC => ?_⟩
        rw [Int.toNat_natCast]
        refine lc_range (lo := 0) (n := zn) (fun d H' => Same H3 H' ∧ ∃ (p2 : List Addr) (q2 : List (Int × Int)), H' C = some (.lst (p2.map V.ref)) ∧ PairsAt H' p2 q2 ∧ q2.Nodup ∧ q2.length ≤ d ∧ ∀ p ∈ q2, p.1 = j ∧ j ≠ i ∧ 0 ≤ p.2 ∧ p.2 < (d : Int))
          ⟨sadd (Same.refl H3) nC, [], [], upd_same, .nil, List.nodup_nil, Nat.le_refl _, fun p hp => absurd hp List.not_mem_nil⟩ ?cturn ?cdone
        case cturn =>
          rintro d H4 hdz ⟨s4, p2, q2, hC, hp2, n2, l2', hq2⟩
          rw [Int.zero_add]
          refine ⟨rfl, ?_⟩
          refine ⟨_, rfl, _, rfl, rfl, _, rfl, ?_⟩
          refine ite2 (fun ht => ?_) (fun ht => ?_)
          · have hne : j ≠ i := fun e => by
              subst e
              simp at ht
            refine ⟨_, rfl, _, rfl, (by show 2 ≤ sizeLine; decide), fun t nt => ?_⟩
            have s5 := sadd (o := .tup [.int (j : Int), .int (d : Int)]) (Same.refl H4) nt
            have ht5 : upd H4 t (.tup [.int (j : Int), .int (d : Int)]) t = some (.tup [.int (j : Int), .int (d : Int)]) := upd_same
            have hC5 := s5 _ _ hC
            have hp5 := hp2.mono fun q xs e => s5 _ _ e
            generalize upd H4 t (.tup [.int (j : Int), .int (d : Int)]) = H5 at s5 ht5 hC5 hp5 ⊢
            have lp := hp5.len
            have kt : ∀ (o : List V) q xs, H5 q = some (.tup xs) → upd H5 C (.lst o) q = some (.tup xs) := fun o q xs e => (upd_ne (ne_of e hC5 (fun y => nomatch y))).trans e
            refine ⟨_, hC5, (by rw [List.length_map, lp, sizeLine_eq]; omega), sout (s4.trans s5) nC, p2 ++ [t], q2 ++ [((j : Int), (d : Int))], by rw [upd_same, List.map_append]; rfl, (hp5.mono (kt _)).app (kt _ _ _ ht5), ?_, ?_, ?_⟩
            · rw [List.nodup_append]
              refine ⟨n2, List.nodup_cons.mpr ⟨List.not_mem_nil, List.nodup_nil⟩, fun x hx y hy e => ?_⟩
              rw [List.mem_singleton.mp hy] at e
              have := (hq2 x hx).2.2.2
              rw [e] at this
              have this' : (d : Int) < d := this
              omega
            · rw [List.length_append]
              show q2.length + 1 ≤ d + 1
              omega
            · intro p hp
              rcases List.mem_append.mp hp with hp | hp
              · obtain ⟨a1, a2, a3, a4⟩ := hq2 p hp
                exact ⟨a1, a2, a3, by omega⟩
              · rw [List.mem_singleton.mp hp]
                exact ⟨rfl, hne, by show (0 : Int) ≤ (d : Int); omega, by show (d : Int) < ((d + 1 : Nat) : Int); omega⟩
          · exact ⟨s4, p2, q2, hC, hp2, n2, by omega, fun p hp => by
              obtain ⟨a1, a2, a3, a4⟩ := hq2 p hp
              exact ⟨a1, a2, a3, by omega⟩⟩
        case cdone =>
          rintro H4 ⟨s4, p2, q2, hC, hp2, n2, l2', hq2⟩
          have lp := hp.len
          have lp2 := hp2.len
          have zn6 : zn ≤ 6 := by omega
          refine ⟨L', C, _, _, rfl, rfl, s4 _ _ hL', hC, (by rw [List.length_map, List.length_map, lp, lp2, sizeLine_eq]; omega), fun M nM => ?_⟩
          have s5 := sadd (o := .lst (ps.map V.ref ++ p2.map V.ref)) (Same.refl H4) nM
          have M1 : H1 M = none := (s3.trans s4).free nM
          refine ⟨_, _, M, ps ++ p2, qs ++ q2, rfl, (s3.trans s4).trans s5, M1, by rw [upd_same, List.map_append], ?_, ?_, ?_, ?_⟩
          · exact (hp.mono fun q xs e => s5 _ _ (s4 _ _ e)).apps (hp2.mono fun q xs e => s5 _ _ e)
          · rw [List.nodup_append]
            refine ⟨nq, n2, fun x hx y hy e => ?_⟩
            have h1 := (hq x hx).2.1
            have h2 := (hq2 y hy).1
            rw [e, h2] at h1
            omega
          · rw [List.length_append]
            omega
          · intro p hp'
            rcases List.mem_append.mp hp' with hp' | hp'
            · obtain ⟨a1, a2, a3, a4, a5⟩ := hq p hp'
              exact ⟨a1, by omega, a3, a4, a5⟩
            · obtain ⟨a1, a2, a3, a4⟩ := hq2 p hp'
              refine ⟨by omega, by omega, fun e => a2 (by omega), a3, ?_⟩
              rw [a1, Int.toNat_natCast, gz]
              exact a4
      case gdone =>
        rintro σ H3 ⟨o6', o7', L', ps, qs, rfl, s3, nL', hL', hp, nq, lq, hq⟩
        rw [la] at lq hq
        have S3' := S1.same s3
        have lp := hp.len
        refine ⟨_, rfl, .inl ⟨rfl, _, SqL.of (s3 _ _ hW1)⟩, ?_⟩
        have zL' := S1.old nL'
        refine ⟨_, rfl, _, rfl, st, g, c, L', n + 7 + 40 * i, ps, qs, rfl, S3', by omega, hL', hp, zL'.2.1, by omega, fun p ps' qs' H4 np z1 z2 z3 hp4 hps' pm S4 F4 => ?_⟩
        obtain ⟨kn, ekn, hkn⟩ : ∃ kn : Nat, (8 : Int) = (kn : Int) ∧ kn ≤ 8 := ⟨8, rfl, by decide⟩
        obtain ⟨H5, eH5, S5, F35, hp5, hps5⟩ : ∃ H5, H5 = H4 ∧ SA H5 st g c (n + 7 + 40 * i + ps.length + 1) ∧ Fr st g H3 H5 ∧ H5 p = some (.lst (ps'.map V.ref)) ∧ PairsAt H5 ps' qs' := ⟨H4, rfl, S4.mono (Nat.le_succ _), F4, hp4, hps'⟩
        rw [ekn, ← eH5]
        refine ⟨_, rfl, p, _, rfl, SqL.of hp5, fun u nu => ?_⟩
        rw [cutV_take, ← List.map_take]
        have su := sadd (o := .lst ((ps'.take kn).map V.ref)) (Same.refl H5) nu
        have hu : upd H5 u (.lst ((ps'.take kn).map V.ref)) u = some (.lst ((ps'.take kn).map V.ref)) := upd_same
        have S6 := S5.same su
        have hps6 := (hps5.taken kn).mono fun q xs e => su _ _ e
        generalize upd H5 u (.lst ((ps'.take kn).map V.ref)) = H6 at su hu S6 hps6 ⊢
        refine ⟨u, _, rfl, .inl ⟨SqL.of hu, fun v nv => ?_⟩⟩
        have sv := sadd (o := .tup ((ps'.take kn).map V.ref)) (Same.refl H6) nv
        have hv : upd H6 v (.tup ((ps'.take kn).map V.ref)) v = some (.tup ((ps'.take kn).map V.ref)) := upd_same
        have S7 := S6.same sv
        have hps7 := hps6.mono fun q xs e => sv _ _ e
        have F15 : Fr st g H1 H5 := (Fr.of s3).trans F35
        have F17 := (F15.trans (Fr.of su)).trans (Fr.of sv)
        generalize upd H6 v (.tup ((ps'.take kn).map V.ref)) = H7 at sv hv S7 hps7 F17 ⊢
        have hD7 := F17 W _ hW1 zW.1 zW.2.1
        refine ⟨W, _, _, rfl, rfl, hD7, (by rw [List.length_map, l1, sizeLine_eq]; omega), ?_⟩
        have kt : ∀ (o : List V) q xs, H7 q = some (.tup xs) → upd H7 W (.lst o) q = some (.tup xs) := fun o q xs e => (upd_ne (ne_of e hD7 (fun y => nomatch y))).trans e
        have lqs : qs.length ≤ 36 := by omega
        refine ⟨_, _, _, _, wps ++ [v], wss ++ [qs'.take kn], rfl, by rw [List.length_append, l1]; rfl, by rw [List.length_append, l2]; rfl, by rw [upd_same, List.map_append]; rfl, fun j q hq' => ?_, fun j hj => ?_, ?_, (upd_ne ndtW).trans (F17 dt _ hdt1 zdt.1 zdt.2.1), ?_⟩
        · by_cases hj : j < wps.length
          · rw [List.getElem?_append_left hj] at hq'
            obtain ⟨ps0, e1, e2⟩ := hw j q hq'
            rw [getD_app_old _ _ _ (by omega)]
            have t17 : ∀ q xs, H1 q = some (.tup xs) → H7 q = some (.tup xs) := fr_tup S1 F17
            exact ⟨ps0, kt _ _ _ (t17 _ _ e1), e2.mono fun q xs e => kt _ _ _ (t17 _ _ e)⟩
          · have ej : j = i := by
              have := (List.getElem?_eq_some_iff.mp hq').1
              rw [List.length_append] at this
              have : ([v] : List Addr).length = 1 := rfl
              omega
            subst ej
            rw [List.getElem?_append_right (by omega), l1, Nat.sub_self] at hq'
            cases hq'
            rw [show (wss ++ [qs'.take kn]).getD j [] = qs'.take kn by rw [← l2]; exact getD_app_last ..]
            exact ⟨ps'.take kn, kt _ _ _ hv, hps7.mono (kt _)⟩
        · by_cases hji : j < i
          · rw [getD_app_old _ _ _ (by omega)]
            exact hok j hji
          · rw [show j = wss.length by omega, getD_app_last, l2]
            refine ⟨by rw [List.length_take]; omega, ((pm.nodup_iff).mpr nq).sublist (List.take_sublist _ _), fun p hp' => hq p (pm.mem_iff.mp (List.mem_of_mem_take hp'))⟩
        · exact (S7.put zW).mono (by omega)
        · intro b o e h1 h2
          have nb : b ≠ W := ne_of_none e W0
          exact (upd_ne nb).trans ((F1.trans F17) b o e h1 h2)
    case done =>
      rintro σ H1 ⟨o4, o5, o6, o7, wps, wss, rfl, l1, l2, hW1, hw, hok, S1, hdt1, F1⟩
      refine ⟨_, rfl, (by show 5 ≤ sizeLine; decide), fun l nl => ?_⟩
      have zl := S1.old nl
      have sl := sadd (o := .lst [.int 3, .int 4, .int 6, .int 9, .int 60]) (Same.refl H1) nl
      have tl := fr_tup S1 (Fr.of (st := st) (g := g) sl)
      refine ⟨st, g, c, l, n + 7 + 40 * ds.length, _, rfl, S1.put zl, by omega, upd_same, zl.2.1, (by show 0 < 5; decide), (by show 5 ≤ 1000000; decide), fun x H2 hx S2 F2 => ?_⟩
      obtain ⟨dep, rfl, d1, d60⟩ : ∃ dep : Int, x = .int dep ∧ 1 ≤ dep ∧ dep ≤ 60 := by
        have hx' : x ∈ ([.int 3, .int 4, .int 6, .int 9, .int 60] : List V) := hx
        simp only [List.mem_cons, List.not_mem_nil, or_false] at hx'
        rcases hx' with rfl | rfl | rfl | rfl | rfl
        all_goals exact ⟨_, rfl, by decide, by decide⟩
      have tl2 := fr_tup (S1.put (o := .lst [.int 3, .int 4, .int 6, .int 9, .int 60]) zl) F2
      have F12 : Fr st g H1 H2 := (Fr.of sl).trans F2
      have F02 := F1.trans F12
      have hW2 := F12 W _ hW1 zW.1 zW.2.1
      refine ⟨_, rfl, W, _, rfl, .inl ⟨SqL.of hW2, fun p np => ?_⟩⟩
      have zp := S2.old np
      have sp := sadd (o := .tup (wps.map V.ref)) (Same.refl H2) np
      have hp : upd H2 p (.tup (wps.map V.ref)) p = some (.tup (wps.map V.ref)) := upd_same
      have S3 := S2.same sp
      have F03 := F02.trans (Fr.of (st := st) (g := g) sp)
      have t13 : ∀ q xs, H1 q = some (.tup xs) → upd H2 p (.tup (wps.map V.ref)) q = some (.tup xs) := fun q xs e => sp _ _ (tl2 _ _ (tl _ _ e))
      generalize upd H2 p (.tup (wps.map V.ref)) = H3 at hp S3 F03 t13 ⊢
      refine ⟨_, rfl, (by show 3 ≤ sizeLine; decide), fun u nu => ?_⟩
      have zu := S3.old nu
      have su := sadd (o := .tup [.int dep, .ref p, .ref dt]) (Same.refl H3) nu
      refine k u ⟨dep, wss, ds⟩ _ (F03.free nu zu.1 zu.2.1) ⟨⟨p, dt, wps, upd_same, su _ _ hp, su _ _ (t13 _ _ hdt1), l1, fun i q e => ?_⟩, ?_⟩ ((S3.same su).mono (by omega)) (F03.trans (Fr.of su))
      · obtain ⟨ps, e1, e2⟩ := hw i q e
        exact ⟨ps, su _ _ (t13 _ _ e1), e2.mono fun q xs z => su _ _ (t13 _ _ z)⟩
      · have hl : ds.length = m := lds
        exact ⟨d1, d60, l2, by show 1 ≤ ds.length; omega, by show ds.length ≤ 6; omega, hd, hok⟩
end
end OH
end
section
set_option Elab.async false
set_option linter.all false
set_option maxRecDepth 100000
set_option maxHeartbeats 1000000
/-! A test, an expression whose end may be weakened: what follows is read once, for all its ways. -/
namespace OH
open PySem PySem.Spec PyProof.Rows L2
def tTUp (t : TT) : TT := fun σ H Q => ∃ R : Bool → Hp → Prop, t σ H R ∧ ∀ b H', R b H' → Q b H'
theorem pt_up {X : Cx} {e : Expr} {t : TT} (h : PT X e t) : PT X e (tTUp t) := ⟨fun pins s σ H Q I ⟨R, h1, k⟩ => thn (h.run pins s σ H R I h1) fun b s1 ⟨H1, I1, r⟩ => ⟨H1, I1, k b H1 r⟩⟩
def tEUp (t : TE) : TE := fun σ H Q => ∃ R : V → Hp → Prop, t σ H R ∧ ∀ v H', R v H' → Q v H'
theorem pe_up {X : Cx} {e : Expr} {t : TE} (h : PE X e t) : PE X e (tEUp t) := ⟨fun pins s σ H Q I ⟨R, h1, k⟩ => thn (h.run pins s σ H R I h1) fun u s1 ⟨v, H1, I1, r, q⟩ => ⟨v, H1, I1, r, k v H1 q⟩⟩
theorem ps_up {X : Cx} {st : Stmt} {t : TS} (h : PS X st t) : PS X st (fun D σ H => ∃ A : L2.St → Hp → Prop, t { D with nx := A } σ H ∧ ∀ σ' H', A σ' H' → D.nx σ' H') := by
  refine ⟨fun pins s σ H D I ⟨A, h1, k⟩ => thn (h.run pins s σ H _ I h1) fun fl s' q => ?_⟩
  cases fl with
  | next =>
    obtain ⟨σ', H', J, q⟩ := q
    exact ⟨σ', H', J, k _ _ q⟩
  | brk => exact q
  | cont => exact q
  | ret u => exact q
end OH
end
section
set_option Elab.async false
set_option linter.all false
set_option maxRecDepth 100000
set_option maxHeartbeats 8000000
/-! A crossing that can stand next. -/
namespace OH
open PySem PySem.Spec PyProof.Rows L2
theorem eqv_nilT (ws : List PyData) : PyData.eqv (.tuple ws) (.tuple []) = ws.isEmpty := by
  cases ws <;> rfl
theorem shaped_pairsT (ws : List (Int × Int)) : SeqAt.shaped (.tuple (ws.map pairD)) = true := shaped_pairs ws
theorem PairsAt.of_mem {H : Hp} {ps : List Addr} {ws : List (Int × Int)} (h : PairsAt H ps ws) {p : Addr} (hp : p ∈ ps) : ∃ q ∈ ws, H p = some (.tup [.int q.1, .int q.2]) := by
  obtain ⟨i, hi⟩ := List.mem_iff_getElem?.mp hp
  obtain ⟨q, q1, q2⟩ := h.get hi
  exact ⟨q, List.mem_of_getElem? q1, q2⟩
theorem AkAt.frm {H H' : Hp} {st g c : Addr} {n : Nat} {al : Addr} {as : List (Int × Int)} (h : AkAt H al as) (S : SA H st g c n) (F : Fr st g H H') (ag : al ≠ g) : AkAt H' al as := by
  obtain ⟨ps, h1, h2⟩ := h
  exact ⟨ps, F al _ h1 (S.ne_st h1 (fun _ z => nomatch z)) ag, h2.mono (fr_tup S F)⟩
theorem AllAt.dpp {K : PySem.W.Frag} {H : Hp} {ps : List Addr} {as : List (Int × Int)} (h : AllAt H pairV ps as) : DpAll K H (ps.map V.ref) (as.map pairD) := by
  induction h with
  | nil => exact .nil
  | cons a _ ih => exact .cons (.tup (SqT.of a) (.cons (.int _) (.cons (.int _) .nil))) ih
/-- what stands while a crossing is drawn -/
structure NxA (H : Hp) (st g c : Addr) (n : Nat) (a al fl : Addr) (F : Fc) (as : List (Int × Int)) (ns : List Int) : Prop where
  S : SA H st g c n
  f : FcAt H a F
  k : AkAt H al as
  l : H fl = some (.lst (ns.map V.int))
  ag : al ≠ g
  lg : fl ≠ g
section
variable {H H' : Hp} {st g c : Addr} {n m : Nat} {a al fl : Addr} {F : Fc} {as : List (Int × Int)} {ns : List Int}
theorem NxA.fr (h : NxA H st g c n a al fl F as ns) (G : Fr st g H H') (S : SA H' st g c m) : NxA H' st g c m a al fl F as ns :=
  ⟨S, h.f.mono (fr_tup h.S G), h.k.frm h.S G h.ag, G fl _ h.l (h.S.ne_st h.l (fun _ z => nomatch z)) h.lg, h.ag, h.lg⟩
theorem NxA.same (h : NxA H st g c n a al fl F as ns) (G : Same H H') : NxA H' st g c n a al fl F as ns := h.fr (Fr.of G) (h.S.same G)
end
def spNextC : Sp := fun vs H Q _ => ∃ (st g c a al fl : Addr) (n : Nat) (r : Int) (F : Fc) (as : List (Int × Int)) (ns : List Int), vs = [.ref st, .ref a, .int r, .ref al, .ref fl] ∧ NxA H st g c n a al fl F as ns ∧ n ≤ 700000 ∧
  SOk F (some r, as) ∧ 1 ≤ ns.length ∧ ns.length ≤ 3 ∧ (∀ z ∈ ns, Num z) ∧
  ∀ (t : Addr) (x : Crs) (H' : Hp), H t = none → H' t = some (.tup x.vs) → Nx F r as x → SA H' st g c (n + 4) → Fr st g H H' → Q (.ref t) H'
section
variable {P : Program} {w : World} {K : PySem.W.Frag} {mg : Str → Option Value} {base : Heap}
abbrev nNx : List Str := ["state", "face", "control", "asks", "few", "way", "number", "to", "door"]
theorem sc__law_next : FnScope nNx ["state", "face", "control", "asks", "few"] (defScope s__law_next) := ⟨rfl, rfl, rfl, by decide +kernel, rfl, by decide +kernel, by decide +kernel⟩
theorem ok__law_next {f : Addr} {fd : FuncData} (F : Fun K "_law_next" "_law_next" s__law_next f fd) (T : Txt K mg)
    (DD : DefF P w K mg base CX0 4 "_law_draw" ["state", "room"] spDraw) (DP : DefF P w K mg base CX0 4 "_law_pick" ["state", "some"] spPick2) : FnOk P w K mg base CX0 5 f fd ["state", "face", "control", "asks", "few"] spNextC := by
  refine F.ok sc__law_next (fun vs H Q E h => ?_) (fun cdv A outer s H vs Q E hr h => ?_)
  · obtain ⟨st, g, c, a, al, fl, n, r, F, as, ns, rfl, _⟩ := h
    rfl
  · obtain ⟨st, g, c, a, al, fl, n, r, F, as, ns, rfl, N, hn, hs, l1, l3, hnum, k⟩ := h
    have nd := sc__law_next.nd
    refine ⟨_, pss_cons (ps_par (i := 5) (j := 6) (by rfl) nd rfl rfl (by decide) rfl rfl (pa_cons (pe_cD DD hr rfl pass0 (pa_cons (pv 0) (pa_cons pe_int pa_nil))) (pa_cons (pe_cD DP hr rfl pass0 (pa_cons (pv 0) (pa_cons (pv 4) pa_nil))) pa_nil)) (by rfl))
      (pss_cons (ps_if (pt_up (PW.pt (pw_and (pt_cmpR op_eq (pv 5) pe_int (nomark _)) (pw_and1 (pt_cmpR op_eq (pe_cD DD hr rfl pass0 (pa_cons (pv 0) (pa_cons pe_int pa_nil))) pe_int (nomark _)))))) (pss_one (ps_ret (pe_tup (pa_cons pe_str (pa_cons (pv 2) pa_nil))))) pss_nil)
      (pss_cons (ps_if (pt_up (PW.pt (pw_and (pt_cmpR (op_neD hr.units) (pe_ix ix_tup (pe_ix ix_tup (pv 1) pe_int (fun _ _ => rfl)) (pv 2) (fun _ _ => rfl)) (pe_tup pa_nil) (nomark _)) (pw_and1 (pt_cmpR op_lt (pv 5) (pe_ifExp (pt_cmpR (op_neD hr.units) (pv 3) (pe_lst pa_nil) (nomark _)) pe_int pe_int) (nomark _)))))) (pss_cons (ps_asg (pe_cD DP hr rfl pass0 (pa_cons (pv 0) (pa_cons (pe_ix ix_tup (pe_ix ix_tup (pv 1) pe_int (fun _ _ => rfl)) (pv 2) (fun _ _ => rfl)) pa_nil))) (pg_tup (by rfl) (pgs_cons (pg_name (i := 7) nd rfl (Or.inl rfl)) (pgs_cons (pg_name (i := 8) nd rfl (Or.inl rfl)) pgs_nil))))
      (pss_one (ps_ret (pe_tup (pa_cons (pe_ifExp (pt_cmpR op_lt (pe_callB call_len_seq (by rfl) T.nLen PySem.boot_len (pa_cons (pv 3) pa_nil)) (pe_ix ix_tup (pv 1) pe_int (fun _ _ => rfl)) (nomark _)) pe_str pe_str) (pa_cons (pv 2) (pa_cons (pv 7) (pa_cons (pv 8) (pa_cons (pv 6) pa_nil))))))))) pss_nil)
      (pss_one (ps_ret (pe_ifExp (pt_cmpR (op_neD hr.units) (pv 3) (pe_lst pa_nil) (nomark _)) (pe_tup (pa_cons pe_str (pa_cons (pv 2) (pa_cons (pe_ix ix_tup (pe_ix ix_list (pv 3) (pe_un un_neg pe_int) (fun _ _ => rfl)) pe_int (fun _ _ => rfl)) (pa_cons (pv 6) pa_nil))))) (pe_tup (pa_cons pe_str (pa_cons (pv 6) pa_nil)))))))), ?_⟩
    have hF := N.f.ok
    obtain ⟨r0, r1⟩ := (hs.ctl (c := r) rfl).rng hF
    have hle : (as.length : Int) ≤ F.dep := hs.le
    refine ⟨_, rfl, st, g, c, n, 10, rfl, N.S, by omega, by decide, by decide, fun wy H1 w0 w9 S1 F1 => ?_⟩
    have N1 := N.fr F1 S1
    refine ⟨_, rfl, _, rfl, st, g, c, fl, n + 1, _, rfl, S1, by omega, .inl ⟨N1.l, N.lg⟩, by rw [List.length_map]; omega, by rw [List.length_map]; omega, fun x H2 hx S2 F2 => ?_⟩
    obtain ⟨num, hnm, rfl⟩ := List.mem_map.mp hx
    have hN := hnum num hnm
    have N2 := N1.fr F2 S2
    have F02 := F1.trans F2
    clear hx F1 F2 S1 S2 N1
    refine ⟨_, _, rfl, ?_⟩
    -- the first test
    refine ⟨fun _ H' => NxA H' st g c (n + 3) a al fl F as ns ∧ Fr st g H H', ?_, fun b H3 ⟨N3, F03⟩ => ?_⟩
    · refine ⟨_, rfl, rfl, _, rfl, ite2 (fun z => ?_) (fun z => ?_)⟩
      · refine ⟨_, rfl, st, g, c, n + 1 + 1, 3, rfl, N2.S, by omega, by decide, by decide, fun y H3 y0 y9 S3 F3 => ?_⟩
        refine ⟨rfl, _, rfl, N2.fr F3 S3, F02.trans F3⟩
      · exact ⟨N2.fr (Fr.refl st g H2) (N2.S.mono (by omega)), F02⟩
    have give : ∀ {H3 : Hp} {m : Nat} (x : Crs) (u : Addr), SA H3 st g c m → m ≤ n + 4 → Fr st g H H3 → H3 u = none → Nx F r as x → Q (.ref u) (upd H3 u (.tup x.vs)) := fun x u S3 hm F3 nu hx =>
      k u x _ (F3.free nu (S3.old nu).1 (S3.old nu).2.1) upd_same hx ((S3.same (sadd (Same.refl _) nu)).mono hm) (F3.trans (Fr.of (sadd (Same.refl _) nu)))
    cases b with
    | true =>
      refine iteT ?_
      exact ⟨_, rfl, (by show 2 ≤ sizeLine; decide), fun u nu => give (.fin r) u N3.S (by omega) F03 nu rfl⟩
    | false =>
      refine iteF ?_
      obtain ⟨wt, dt, wps, b1, b2, b3, b4, b5⟩ := N3.f.ex
      obtain ⟨wp, hwp⟩ : ∃ wp, wps[r.toNat]? = some wp := ⟨_, List.getElem?_eq_getElem (by rw [b4]; omega)⟩
      obtain ⟨ps, p1, p2⟩ := b5 _ _ hwp
      obtain ⟨as_, a1, a2⟩ := id N3.k
      have at_ : atI (wps.map V.ref) r = some (.ref wp) := by
        have := atI_nat (xs := wps.map V.ref) (j := r.toNat) (v := .ref wp) (by rw [List.getElem?_map, hwp]; rfl)
        rwa [Int.toNat_of_nonneg r0] at this
      have lw8 : (F.ws r.toNat).length ≤ 8 := (hF.wi r.toNat (by omega)).1
      have sp2 := shaped_pairsT (F.ws r.toNat)
      have spa := shaped_pairs as
      refine ⟨fun b H' => Same H3 H' ∧ (b = true → F.ws r.toNat ≠ []), ?_, fun b H4 ⟨s4, hb⟩ => ?_⟩
      · refine ⟨_, rfl, a, _, 1, _, rfl, rfl, SqT.of b1, rfl, _, rfl, wt, _, r, .ref wp, rfl, rfl, SqT.of b2, at_, (by show 0 ≤ sizeLine; decide), fun e ne => ?_⟩
        have se := sadd (o := .tup []) (Same.refl H3) ne
        have he : upd H3 e (.tup []) e = some (.tup []) := upd_same
        have p13 := se _ _ p1
        have p23 := p2.mono fun q xs z => se _ _ z
        have a13 := se _ _ a1
        have a23 := a2.mono fun q xs z => se _ _ z
        generalize upd H3 e (.tup []) = H4 at se he p13 p23 a13 a23 ⊢
        refine ⟨.tuple ((F.ws r.toNat).map pairD), .tuple [], .tup (SqT.of p13) p23.dp, .tup (SqT.of he) .nil, sp2, rfl, _, rfl, ?_⟩
        rw [eqv_nilT]
        cases hws : ((F.ws r.toNat).map pairD).isEmpty with
        | true => exact iteF ⟨se, fun z => nomatch z⟩
        | false =>
          refine iteT ?_
          have hne : F.ws r.toNat ≠ [] := fun z => by rw [z] at hws; cases hws
          refine ⟨_, rfl, _, rfl, (by show 0 ≤ sizeLine; decide), fun e2 ne2 => ?_⟩
          have se2 := sadd (o := .lst []) (Same.refl H4) ne2
          have he2 : upd H4 e2 (.lst []) e2 = some (.lst []) := upd_same
          refine ⟨.list (as.map pairD), .list [], .lst (SqL.of (se2 _ _ a13)) (a23.mono fun q xs z => se2 _ _ z).dpp, .lst (SqL.of he2) .nil, spa, rfl, _, rfl, ?_⟩
          refine ite2 (fun _ => ?_) (fun _ => ?_)
          · exact ⟨_, _, rfl, rfl, _, rfl, se.trans se2, fun _ => hne⟩
          · exact ⟨_, _, rfl, rfl, _, rfl, se.trans se2, fun _ => hne⟩
      have N4 := N3.same s4
      have F04 := F03.trans (Fr.of s4)
      replace b1 := s4 _ _ b1
      replace b2 := s4 _ _ b2
      replace p1 := s4 _ _ p1
      replace p2 := p2.mono fun q xs z => s4 _ _ z
      replace a1 := s4 _ _ a1
      replace a2 := a2.mono fun q xs z => s4 _ _ z
      have lps := p2.len
      have las := a2.len
      cases b with
      | true =>
        refine iteT ?_
        have pos : 0 < (F.ws r.toNat).length := List.length_pos_iff.mpr (hb rfl)
        refine ⟨_, rfl, _, rfl, a, _, 1, _, rfl, rfl, SqT.of b1, rfl, _, rfl, wt, _, r, .ref wp, rfl, rfl, SqT.of b2, at_, ?_⟩
        refine ⟨st, g, c, wp, n + 3, _, rfl, N4.S, by omega, .inr p1, by rw [List.length_map]; omega, by rw [List.length_map]; omega, fun x H5 hx S5 F5 => ?_⟩
        obtain ⟨q, hq, rfl⟩ := List.mem_map.mp hx
        obtain ⟨v, hv, hqv⟩ := p2.of_mem hq
        have t5 := fr_tup N4.S F5
        refine ⟨q, _, rfl, SqT.of (t5 _ _ hqv), rfl, _, _, rfl, _, _, rfl, rfl, ?_⟩
        have N5 := N4.fr F5 S5
        have F05 := F04.trans F5
        obtain ⟨as5, a15, a25⟩ := id N5.k
        have la5 := a25.len
        refine ⟨_, rfl, al, _, rfl, .inl (SqL.of a15), _, rfl, a, _, 0, _, rfl, rfl, SqT.of (t5 _ _ b1), rfl, _, _, rfl, rfl, _, rfl, ?_⟩
        rw [List.length_map, la5]
        refine ite2 (fun z => ?_) (fun z => ?_)
        · have hlt : (as.length : Int) < F.dep := by simpa using z
          refine ⟨_, rfl, _, rfl, _, rfl, _, rfl, (by show 5 ≤ sizeLine; decide), fun u nu => ?_⟩
          exact give (.call r v.1 v.2 num) u N5.S (by omega) F05 nu ⟨rfl, hv, hlt, hN⟩
        · have hlt : ¬ (as.length : Int) < F.dep := by simpa using z
          refine ⟨_, rfl, _, rfl, _, rfl, _, rfl, (by show 5 ≤ sizeLine; decide), fun u nu => ?_⟩
          exact give (.deep r v.1 v.2 num) u N5.S (by omega) F05 nu ⟨rfl, hv, by omega, hN⟩
      | false =>
        refine iteF ?_
        refine ⟨_, rfl, (by show 0 ≤ sizeLine; decide), fun e2 ne2 => ?_⟩
        have se2 := sadd (o := .lst []) (Same.refl H4) ne2
        have he2 : upd H4 e2 (.lst []) e2 = some (.lst []) := upd_same
        have S5 := N4.S.same se2
        have F05 := F04.trans (Fr.of se2)
        replace a1 := se2 _ _ a1
        replace a2 := a2.mono fun q xs z => se2 _ _ z
        generalize upd H4 e2 (.lst []) = H5 at se2 he2 S5 F05 a1 a2 ⊢
        refine ⟨.list (as.map pairD), .list [], .lst (SqL.of a1) a2.dpp, .lst (SqL.of he2) .nil, spa, rfl, _, rfl, ?_⟩
        rw [eqv_nil]
        cases has : (as.map pairD).isEmpty with
        | true =>
          refine iteF ?_
          have e0 : as = [] := by
            cases as with
            | nil => rfl
            | cons _ _ => cases has
          exact ⟨_, rfl, (by show 2 ≤ sizeLine; decide), fun u nu => give (.done num) u S5 (by omega) F05 nu ⟨e0, hN⟩⟩
        | false =>
          refine iteT ?_
          obtain ⟨q, hq⟩ : ∃ q, as.getLast? = some q := by
            cases h : as.getLast? with
            | none => rw [List.getLast?_eq_none_iff.mp h] at has; cases has
            | some q => exact ⟨q, rfl⟩
          have hq' := hq
          rw [List.getLast?_eq_getElem?] at hq'
          obtain ⟨pq, hpq, e2'⟩ := a2.get hq'
          rw [← las] at hpq
          refine ⟨_, rfl, _, rfl, _, rfl, al, _, -1, .ref pq, rfl, rfl, SqL.of a1, atI_end (by rw [List.length_map, List.getElem?_map, hpq]; rfl), pq, _, 0, _, rfl, rfl, SqT.of e2', rfl, _, rfl, (by show 4 ≤ sizeLine; decide), fun u nu => ?_⟩
          exact give (.back r q.1 num) u S5 (by omega) F05 nu ⟨rfl, ⟨q, hq, rfl⟩, hN⟩
end
end OH
end
section
set_option Elab.async false
set_option linter.all false
set_option maxRecDepth 100000
set_option maxHeartbeats 8000000
/-! A row is drawn. -/
namespace OH
open PySem PySem.Spec PyProof.Rows L2
theorem RwAt.frm {H H' : Hp} {st g c : Addr} {n : Nat} {l : Addr} {cs : List Crs} (h : RwAt H l cs) (S : SA H st g c n) (F : Fr st g H H') (ag : l ≠ g) : RwAt H' l cs := by
  obtain ⟨ps, h1, h2⟩ := h
  exact ⟨ps, F l _ h1 (S.ne_st h1 (fun _ z => nomatch z)) ag, h2.mono (fr_tup S F)⟩
theorem RwAt.add {H : Hp} {l t : Addr} {cs : List Crs} {x : Crs} (h : RwAt H l cs) (ht : H t = some (.tup x.vs)) : ∃ ps : List Addr, H l = some (.lst (ps.map V.ref)) ∧ ps.length = cs.length ∧ RwAt (upd H l (.lst (ps.map V.ref ++ [.ref t]))) l (cs ++ [x]) ∧ ∀ q xs, H q = some (.tup xs) → upd H l (.lst (ps.map V.ref ++ [.ref t])) q = some (.tup xs) := by
  obtain ⟨ps, h1, h2⟩ := h
  have kt : ∀ q xs, H q = some (.tup xs) → upd H l (.lst (ps.map V.ref ++ [.ref t])) q = some (.tup xs) := fun q xs e => (upd_ne (ne_of e h1 (fun z => nomatch z))).trans e
  exact ⟨ps, h1, h2.len, ⟨ps ++ [t], by rw [upd_same, List.map_append]; rfl, (h2.mono kt).app (kt _ _ ht)⟩, kt⟩
def spRowD : Sp := fun vs H Q _ => ∃ (st g c a : Addr) (n : Nat) (F : Fc) (most : Int), vs = [.ref st, .ref a, .int most] ∧ SA H st g c n ∧ FcAt H a F ∧ n ≤ 600000 ∧ 0 ≤ most ∧ most ≤ 100 ∧
  ∀ (l : Addr) (cs : List Crs) (H' : Hp), H l = none → RwAt H' l cs → VR F cs → (cs.length : Int) ≤ most + 1 → SA H' st g c (n + 500) → Fr st g H H' → Q (.ref l) H'
section
variable {P : Program} {w : World} {K : PySem.W.Frag} {mg : Str → Option Value} {base : Heap}
abbrev nDr : List Str := ["state", "face", "most", "few", "row", "control", "asks", "turn"]
theorem sc__law_drawn_row : FnScope nDr ["state", "face", "most"] (defScope s__law_drawn_row) := ⟨rfl, rfl, rfl, by decide +kernel, rfl, by decide +kernel, by decide +kernel⟩
theorem ok__law_drawn_row {f : Addr} {fd : FuncData} (F : Fun K "_law_drawn_row" "_law_drawn_row" s__law_drawn_row f fd) (T : Txt K mg)
    (DF : DefF P w K mg base CX0 9 "_law_few" ["state"] spFew) (DD : DefF P w K mg base CX0 9 "_law_draw" ["state", "room"] spDraw) (DP : DefF P w K mg base CX0 9 "_law_pick" ["state", "some"] spPick2)
    (DN : DefF P w K mg base CX0 9 "_law_next" ["state", "face", "control", "asks", "few"] spNextC) (DB : DefF P w K mg base CX0 9 "_law_behind" ["control", "asks", "crossing"] (spBehind K)) :
    FnOk P w K mg base CX0 10 f fd ["state", "face", "most"] spRowD := by
  refine F.ok sc__law_drawn_row (fun vs H Q E h => ?_) (fun cdv A outer s H vs Q E hr h => ?_)
  · obtain ⟨st, g, c, a, n, F, most, rfl, _⟩ := h
    rfl
  · obtain ⟨st, g, c, a, n, F, most, rfl, S, hf, hn, m0, m1, k⟩ := h
    have nd := sc__law_drawn_row.nd
    refine ⟨_, pss_cons (ps_set (i := 3) nd rfl (Or.inl rfl) (pe_cD DF hr rfl pass0 (pa_cons (pv 0) pa_nil)))
      (pss_cons (ps_par3 (i := 4) (j := 5) (l := 6) rfl nd rfl rfl rfl (by decide) (by decide) (by decide) rfl rfl rfl (pa_cons (pe_lst (pa_cons (pe_tup (pa_cons pe_str (pa_cons (pe_cD DP hr rfl pass0 (pa_cons (pv 0) (pa_cons (pv 3) pa_nil))) pa_nil))) pa_nil)) (pa_cons pe_int (pa_cons (pe_lst pa_nil) pa_nil))) (by rfl))
      (pss_cons (ps_for PassesOwn.never rfl (pi_range1 rfl T.nRange (pa_cons (pe_cD DD hr rfl pass0 (pa_cons (pv 0) (pa_cons (pe_op op_add (pv 2) pe_int) pa_nil))) pa_nil)) (pg_name (i := 7) nd rfl (Or.inl rfl))
        (pss_one (ps_if (pt_cmpR op_notN (pv 5) pe_non (nomark _)) (pss_cons (ps_expr (pe_bm PySem.F.plainAttrs_list PySem.F.slot_list_append PySem.F.type_list_append mt_append (pv 4) (pa_cons (pe_cD DN hr rfl pass0 (pa_cons (pv 0) (pa_cons (pv 1) (pa_cons (pv 5) (pa_cons (pv 6) (pa_cons (pv 3) pa_nil)))))) pa_nil)))
      (pss_one (ps_asg (pe_cD DB hr rfl pass0 (pa_cons (pv 5) (pa_cons (pv 6) (pa_cons (pe_ix ix_list (pv 4) (pe_un un_neg pe_int) (fun _ _ => rfl)) pa_nil)))) (pg_tup (by rfl) (pgs_cons (pg_name (i := 5) nd rfl (Or.inl rfl)) (pgs_cons (pg_name (i := 6) nd rfl (Or.inl rfl)) pgs_nil)))))) pss_nil)))
      (pss_one (ps_ret (pv 4))))), ?_⟩
    have hF := hf.ok
    refine ⟨_, rfl, st, g, c, n, rfl, S, by omega, fun fl ns H1 nfl f1 f2 f3 hfl l1 l3 hnum S1 F1 => ?_⟩
    refine ⟨_, rfl, _, rfl, st, g, c, fl, n + 7, _, rfl, S1, by omega, .inl ⟨hfl, f2⟩, by rw [List.length_map]; omega, by rw [List.length_map]; omega, fun x H2 hx S2 F2 => ?_⟩
    obtain ⟨num, hnm, rfl⟩ := List.mem_map.mp hx
    have hN := hnum num hnm
    have hf2 := (hf.mono (fr_tup S F1)).mono (fr_tup S1 F2)
    have hfl2 := F2 fl _ hfl f1 f2
    have F02 := F1.trans F2
    refine ⟨(by show 2 ≤ sizeLine; decide), fun t0 nt0 => ?_⟩
    have st0 := sadd (o := .tup [.str "start", .int num]) (Same.refl H2) nt0
    have ht0 : upd H2 t0 (.tup [.str "start", .int num]) t0 = some (.tup (Crs.start num).vs) := upd_same
    have S3 := S2.same st0
    have F03 := F02.trans (Fr.of st0)
    have hf3 := hf2.same st0
    have hfl3 := st0 _ _ hfl2
    generalize upd H2 t0 (.tup [.str "start", .int num]) = H3 at ht0 S3 F03 hf3 hfl3 ⊢
    refine ⟨(by show 1 ≤ sizeLine; decide), fun l nl => ?_⟩
    have zl := S3.old nl
    have nfll : fl ≠ l := ne_of_none hfl3 nl
    have l0 := F03.free nl zl.1 zl.2.1
    have sl := sadd (o := .lst [.ref t0]) (Same.refl H3) nl
    have hl : upd H3 l (.lst [.ref t0]) l = some (.lst ([t0].map V.ref)) := upd_same
    have S4 := S3.same sl
    have F04 := F03.trans (Fr.of sl)
    have hf4 := hf3.same sl
    have hfl4 := sl _ _ hfl3
    have ht4 := sl _ _ ht0
    generalize upd H3 l (.lst [.ref t0]) = H4 at hl S4 F04 hf4 hfl4 ht4 ⊢
    refine ⟨(by show 0 ≤ sizeLine; decide), fun al nal => ?_⟩
    have zal := S4.old nal
    have nall0 : al ≠ l := (ne_of_none hl nal).symm
    have sal := sadd (o := .lst []) (Same.refl H4) nal
    have hal : upd H4 al (.lst []) al = some (.lst (([] : List Addr).map V.ref)) := upd_same
    have S5 := S4.same sal
    have F05 := F04.trans (Fr.of sal)
    have hf5 := hf4.same sal
    have hfl5 := sal _ _ hfl4
    have hl5 := sal _ _ hl
    have ht5 := sal _ _ ht4
    generalize upd H4 al (.lst []) = H5 at hal S5 F05 hf5 hfl5 hl5 ht5 ⊢
    have R5 : RwAt H5 l [.start num] := ⟨[t0], hl5, .cons ht5 .nil⟩
    have A5 : AkAt H5 al [] := ⟨[], hal, .nil⟩
    refine ⟨_, _, _, rfl, ?_⟩
    refine ⟨_, rfl, _, rfl, _, _, rfl, rfl, st, g, c, _, most + 1, rfl, S5, by omega, by omega, by omega, fun u H6 u0 u1 S6 F6 => ?_⟩
    refine ⟨_, rfl, by omega, by omega, ?_⟩
    refine for_range (lo := 0) (n := u.toNat) (fun i σ H' => ∃ (cs : List Crs) (al : Addr) (o7 : Option V), σ = [some (.ref st), some (.ref a), some (.int most), some (.ref fl), some (.ref l), some (optV (stt (none, []) cs).1), some (.ref al), o7] ∧
      VR F cs ∧ RwAt H' l cs ∧ cs.length ≤ i + 1 ∧ al ≠ l ∧ NxA H' st g c (n + 9 + 4 * i) a al fl F (stt (none, []) cs).2 ns ∧ Fr st g H H') ?h0 ?turn ?done
    case h0 =>
      have A6 := A5.frm S5 F6 zal.2.1
      exact ⟨[.start num], al, none, rfl, ⟨num, [], rfl, hN, trivial⟩, R5.frm S5 F6 zl.2.1, Nat.le_refl _, nall0, ⟨S6.mono (by omega), hf5.mono (fr_tup S5 F6), A6, F6 fl _ hfl5 f1 f2, zal.2.1, f2⟩, F05.trans F6⟩
    case done =>
      rintro σ H7 ⟨cs, al, o7, rfl, hv, hr7, lc, nall, N7, F7⟩
      exact ⟨_, rfl, k l cs H7 l0 hr7 hv (by omega) (N7.S.mono (by omega)) F7⟩
    case turn =>
      rintro i σ H7 hi ⟨cs, al, o7, rfl, hv, hr7, lc, nall, N7, F7⟩
      refine ⟨_, rfl, rfl, _, rfl, ?_⟩
      cases hc : (stt (none, []) cs).1 with
      | none => exact iteF ⟨cs, al, _, by rw [hc]; rfl, hv, hr7, by omega, nall, N7.fr (Fr.refl st g H7) (N7.S.mono (by omega)), F7⟩
      | some r =>
        refine iteT ?_
        have sok := hv.ok hF
        have hs : SOk F (some r, (stt (none, []) cs).2) := by rw [← hc]; exact sok
        have las : (stt (none, []) cs).2.length ≤ 60 := by
          have h1 := hs.le
          have h2 := hF.d60
          have h3 : ((stt (none, []) cs).2.length : Int) ≤ F.dep := h1
          omega
        obtain ⟨ps7, r1, r2⟩ := id hr7
        refine ⟨_, rfl, .inl ⟨rfl, _, SqL.of r1⟩, ?_⟩
        refine ⟨_, rfl, _, rfl, _, rfl, _, rfl, _, rfl, st, g, c, a, al, fl, n + 9 + 4 * i, r, F, _, ns, rfl, N7, by omega, hs, l1, l3, hnum, fun t x H8 nt8 ht8 hx S8 F8 => ?_⟩
        have N8 := N7.fr F8 S8
        obtain ⟨ps8, q1, q2, q3, q4⟩ := (hr7.frm N7.S F8 zl.2.1).add ht8
        refine ⟨l, _, _, rfl, rfl, q1, (by rw [List.length_map, q2, sizeLine_eq]; omega), ?_⟩
        have k8 : ∀ b o, H8 b = some o → b ≠ l → upd H8 l (.lst (ps8.map V.ref ++ [.ref t])) b = some o := fun b o e nb => (upd_ne nb).trans e
        have ht9 := q4 _ _ ht8
        have S9 := S8.put (o := .lst (ps8.map V.ref ++ [.ref t])) zl
        have hf9 := N8.f.mono q4
        have nfl2 : fl ≠ l := nfll
        have nal2 : al ≠ l := nall
        have hfl9 := k8 fl _ N8.l nfl2
        have ak9 : AkAt (upd H8 l (.lst (ps8.map V.ref ++ [.ref t]))) al (stt (none, []) cs).2 := by
          obtain ⟨as_, a1, a2⟩ := N8.k
          exact ⟨as_, k8 al _ a1 nal2, a2.mono q4⟩
        have F9 : Fr st g H (upd H8 l (.lst (ps8.map V.ref ++ [.ref t]))) := fun b o e h1 h2 => k8 b o ((F7.trans F8) b o e h1 h2) (ne_of_none e l0)
        generalize upd H8 l (.lst (ps8.map V.ref ++ [.ref t])) = H9 at q3 ht9 S9 hf9 hfl9 ak9 F9 ⊢
        obtain ⟨ps9, w1, w2⟩ := id q3
        obtain ⟨t', ht', ht9'⟩ := w2.get (i := cs.length) (x := x) (by rw [List.getElem?_append_right (Nat.le_refl _), Nat.sub_self]; rfl)
        have lw := w2.len
        rw [List.length_append] at lw
        refine ⟨_, rfl, _, rfl, _, rfl, _, rfl, l, _, -1, .ref t', rfl, rfl, SqL.of w1, atI_end (by rw [List.length_map, lw, List.getElem?_map, show cs.length + [x].length - 1 = cs.length from rfl, ht']; rfl), ?_⟩
        refine ⟨_, al, t', some r, (stt (none, []) cs).2, x, rfl, ak9, ht9', by omega, fun u' al' Ha sa nu' ha' hu' ak' => ?_⟩
        refine ⟨u', _, rfl, SqT.of hu', rfl, _, _, rfl, _, _, rfl, rfl, ?_⟩
        have est : stt (none, []) (cs ++ [x]) = bh (some r, (stt (none, []) cs).2) x := by rw [stt_snoc, ← hc]
        have nag : al' ≠ g := by
          rcases ha' with rfl | ha'
          · exact N8.ag
          · exact (S9.old ha').2.1
        have nal9 : al' ≠ l := by
          rcases ha' with rfl | ha'
          · exact nall
          · exact (ne_of_none w1 ha').symm
        refine ⟨cs ++ [x], al', _, by rw [est]; rfl, hv.snoc hc hx, q3.same sa, by rw [List.length_append]; show cs.length + 1 ≤ _; omega, nal9, ⟨(S9.same sa).mono (by omega), hf9.same sa, by rw [est]; exact ak', sa _ _ hfl9, nag, f2⟩, F9.trans (Fr.of sa)⟩
end
end OH
end
section
set_option Elab.async false
set_option linter.all false
set_option maxRecDepth 100000
set_option maxHeartbeats 4000000
/-! A def called by keywords alone. -/
namespace OH
open PySem PySem.Spec PyProof.Rows L2
section
variable {X : Cx} {CX : CXT} {k : Nat} {f : Addr} {fd : FuncData} {ps ks : List Str} {sp : Sp} {E : XK} {x : Str} {p pos : Pos} {kws : List Keyword} {tk : TA}
  {g : List Value → List Value → List Value} {gV : List V → List V → List V}
theorem pe_callK0 (F : FnOk X.prog X.w X.K X.mg X.base CX k f fd ps sp) (hr : Room k X.A) (hg : Gl X x) (hm : X.mg x = some (.ref f)) (hk : PySem.W.keepIn X.K (.ref f) = true)
    (hb : KBinds X.K fd ps ks g gV) (hx : Passes CX X E) (hkw : PK X kws tk)
    (hall : ((backToKw pos (keywordEach kws X.env)).all fun x => x.fst.isSome) = true := by rfl)
    (hks : List.filterMap (fun x => x.fst) (backToKw pos (keywordEach kws X.env)) = ks := by rfl)
    (hdb : (x == ("__debug__" : Str)) = false := by decide)
    (hno : (((backTo pos (starEach [] X.env)).any fun x => x.fst) || (backToKw pos (keywordEach kws X.env)).any fun x => x.fst.isNone) = false := by rfl) :
    PE X (.Call (.Name x p) [] kws pos) (tCallK sp gV E tNil tk) := by
  constructor
  intro pins s σ H Q I h
  refine wpAny_Call_Name_kw (ld_glob I hg hm ?_ hdb)
  refine PySem.W.callWith_KW0 (h₀ := X.base) I.ok.mod.kin hk hall ?_ hno
  have h' : tk σ H fun zs H2 => sp (gV [] zs) H2 Q E := h
  refine thn (hkw.run pos pins s σ H _ I h') ?_
  rintro us s1 ⟨zs, H1, I1, r, q⟩
  refine ⟨I1.kIn, ?_⟩
  rw [hks]
  have rr := hb.rel (vs := []) (us := []) .nil r
  have n : (g [] us).length = ps.length := by
    rw [← rr.length]
    exact F.len _ _ _ _ q
  have b := hb.to s1 [] us I1.kIn n
  refine wpAny_call (codeAny_mono (F.run X.A X.stack s1 H1 ⟨[], ks.zip us⟩ (g [] us) (gV [] zs) Q E hr I1.env0 b rr q) fun res s2 done => ?_)
  rcases res with er | fl
  · exact hx pins σ H1 s1 er s2 I1 done
  · cases fl with
    | ret u => exact I1.after done
    | _ => exact False.elim done
end
end OH
end
section
set_option Elab.async false
set_option linter.all false
set_option maxRecDepth 100000
set_option maxHeartbeats 4000000
/-! Any values in the place of crossings: what stands in tuples; RowWalk.fields for any word. -/
namespace OH
open PySem PySem.Spec PyProof.Rows L2
theorem _root_.L2.FnOk.or {P : Program} {w : World} {K : PySem.W.Frag} {mg : Str → Option Value} {base : Heap} {CX : CXT} {k : Nat} {f : Addr} {fd : FuncData} {ps : List Str} {sp sp' : Sp} (F : FnOk P w K mg base CX k f fd ps sp) (G : FnOk P w K mg base CX k f fd ps sp') : FnOk P w K mg base CX k f fd ps (fun vs H Q E => sp vs H Q E ∨ sp' vs H Q E) :=
  ⟨fun vs H Q E h => h.elim (F.len vs H Q E) (G.len vs H Q E), fun A out s H ar us vs Q E hr he hb hv hs => hs.elim (F.run A out s H ar us vs Q E hr he hb hv) (G.run A out s H ar us vs Q E hr he hb hv)⟩
/-- what may stand in a tuple -/
inductive Ax where
  | n (z : Int)
  | t
  | o
  | s (x : Str)
def Ax.v : Ax → V
  | .n z => .int z
  | .t => .bl true
  | .o => .non
  | .s x => .str x
def axLay : Ax → Bool
  | .s x => PyData.canLay0 (.str x)
  | _ => true
/-- what may stand in a row -/
inductive Ci where
  | tup (xs : List Ax)
  | oth
/-- what is no tuple; Z: what nobody else changes -/
def Oth (Z : Addr → Prop) (H : Hp) (v : V) : Prop := v = .non ∨ (∃ i, v = .int i) ∨ (∃ x, v = .str x) ∨ (∃ p xs, v = .ref p ∧ Z p ∧ H p = some (.lst xs)) ∨ ∃ p kvs, v = .ref p ∧ Z p ∧ H p = some (.dK kvs)
def CiAt (Z : Addr → Prop) (H : Hp) (v : V) : Ci → Prop
  | .tup xs => ∃ p, v = .ref p ∧ H p = some (.tup (xs.map Ax.v)) ∧ xs.length ≤ 1000 ∧ xs.all axLay = true
  | .oth => Oth Z H v
inductive CisAt (Z : Addr → Prop) (H : Hp) : List V → List Ci → Prop where
  | nil : CisAt Z H [] []
  | cons {v : V} {c : Ci} {vs : List V} {cs : List Ci} : CiAt Z H v c → CisAt Z H vs cs → CisAt Z H (v :: vs) (c :: cs)
/-- what may stand for a row -/
inductive Rt where
  | seq (cs : List Ci)
  | oth
def RtAt (Z : Addr → Prop) (H : Hp) (v : V) : Rt → Prop
  | .seq cs => ∃ p vs, v = .ref p ∧ Z p ∧ (H p = some (.lst vs) ∨ H p = some (.tup vs)) ∧ CisAt Z H vs cs ∧ cs.length ≤ 2000
  | .oth => v = .non ∨ (∃ x, v = .str x) ∨ ∃ p kvs, v = .ref p ∧ Z p ∧ H p = some (.dK kvs)
section
variable {Z : Addr → Prop} {H H' : Hp} {v : V} {st g c : Addr} {n : Nat}
theorem Oth.same (h : Oth Z H v) (s : Same H H') : Oth Z H' v := by
  rcases h with h | h | h | ⟨p, xs, e, z, a⟩ | ⟨p, xs, e, z, a⟩
  · exact .inl h
  · exact .inr (.inl h)
  · exact .inr (.inr (.inl h))
  · exact .inr (.inr (.inr (.inl ⟨p, xs, e, z, s _ _ a⟩)))
  · exact .inr (.inr (.inr (.inr ⟨p, xs, e, z, s _ _ a⟩)))
theorem CiAt.same {x : Ci} (h : CiAt Z H v x) (s : Same H H') : CiAt Z H' v x := by
  cases x with
  | tup xs => obtain ⟨p, e, a, l⟩ := h; exact ⟨p, e, s _ _ a, l⟩
  | oth => exact Oth.same h s
theorem CisAt.same {vs : List V} {xs : List Ci} (h : CisAt Z H vs xs) (s : Same H H') : CisAt Z H' vs xs := by
  induction h with
  | nil => exact .nil
  | cons a _ ih => exact .cons (a.same s) ih
theorem CisAt.len {vs : List V} {xs : List Ci} (h : CisAt Z H vs xs) : vs.length = xs.length := by
  induction h with
  | nil => rfl
  | cons _ _ ih => exact congrArg (· + 1) ih
theorem CisAt.get {vs : List V} {xs : List Ci} (h : CisAt Z H vs xs) : ∀ {i : Nat} {v : V}, vs[i]? = some v → ∃ x, xs[i]? = some x ∧ CiAt Z H v x := by
  induction h with
  | nil => intro i p e; cases i <;> cases e
  | cons a _ ih =>
    intro i p e
    cases i with
    | zero => exact ⟨_, rfl, by cases e; exact a⟩
    | succ i => exact ih e
theorem CisAt.app {vs ws : List V} {xs ys : List Ci} (h : CisAt Z H vs xs) (g : CisAt Z H ws ys) : CisAt Z H (vs ++ ws) (xs ++ ys) := by
  induction h with
  | nil => exact g
  | cons a _ ih => exact .cons a ih
theorem CisAt.take_ {vs : List V} {xs : List Ci} (h : CisAt Z H vs xs) (i : Nat) : CisAt Z H (vs.take i) (xs.take i) := by
  induction h generalizing i with
  | nil => rw [List.take_nil, List.take_nil]; exact .nil
  | cons a _ ih =>
    cases i with
    | zero => exact .nil
    | succ i => exact .cons a (ih i)
theorem CisAt.drop_ {vs : List V} {xs : List Ci} (h : CisAt Z H vs xs) (i : Nat) : CisAt Z H (vs.drop i) (xs.drop i) := by
  induction h generalizing i with
  | nil => rw [List.drop_nil, List.drop_nil]; exact .nil
  | cons a r ih =>
    cases i with
    | zero => exact .cons a r
    | succ i => exact ih i
theorem CisAt.rev {vs : List V} {xs : List Ci} (h : CisAt Z H vs xs) : CisAt Z H vs.reverse xs.reverse := by
  induction h with
  | nil => exact .nil
  | cons a _ ih =>
    rw [List.reverse_cons, List.reverse_cons]
    exact ih.app (.cons a .nil)
theorem RtAt.same {r : Rt} (h : RtAt Z H v r) (s : Same H H') : RtAt Z H' v r := by
  cases r with
  | seq cs => obtain ⟨p, vs, e, z, a, b⟩ := h; exact ⟨p, vs, e, z, a.elim (fun a => .inl (s _ _ a)) (fun a => .inr (s _ _ a)), b.1.same s, b.2⟩
  | oth =>
    rcases h with h | h | ⟨p, xs, e, z, a⟩
    · exact .inl h
    · exact .inr (.inl h)
    · exact .inr (.inr ⟨p, xs, e, z, s _ _ a⟩)
def Zs (st g : Addr) : Addr → Prop := fun p => p ≠ st ∧ p ≠ g
theorem Oth.frm (h : Oth (Zs st g) H v) (F : Fr st g H H') : Oth (Zs st g) H' v := by
  rcases h with h | h | h | ⟨p, xs, e, z, a⟩ | ⟨p, xs, e, z, a⟩
  · exact .inl h
  · exact .inr (.inl h)
  · exact .inr (.inr (.inl h))
  · exact .inr (.inr (.inr (.inl ⟨p, xs, e, z, F _ _ a z.1 z.2⟩)))
  · exact .inr (.inr (.inr (.inr ⟨p, xs, e, z, F _ _ a z.1 z.2⟩)))
theorem CiAt.frm {x : Ci} (h : CiAt (Zs st g) H v x) (S : SA H st g c n) (F : Fr st g H H') : CiAt (Zs st g) H' v x := by
  cases x with
  | tup xs => obtain ⟨p, e, a, l⟩ := h; exact ⟨p, e, fr_tup S F _ _ a, l⟩
  | oth => exact Oth.frm h F
theorem CisAt.frm {vs : List V} {xs : List Ci} (h : CisAt (Zs st g) H vs xs) (S : SA H st g c n) (F : Fr st g H H') : CisAt (Zs st g) H' vs xs := by
  induction h with
  | nil => exact .nil
  | cons a _ ih => exact .cons (a.frm S F) ih
theorem RtAt.frm {r : Rt} (h : RtAt (Zs st g) H v r) (S : SA H st g c n) (F : Fr st g H H') : RtAt (Zs st g) H' v r := by
  cases r with
  | seq cs => obtain ⟨p, vs, e, z, a, b⟩ := h; exact ⟨p, vs, e, z, a.elim (fun a => .inl (F _ _ a z.1 z.2)) (fun a => .inr (fr_tup S F _ _ a)), b.1.frm S F, b.2⟩
  | oth =>
    rcases h with h | h | ⟨p, xs, e, z, a⟩
    · exact .inl h
    · exact .inr (.inl h)
    · exact .inr (.inr ⟨p, xs, e, z, F _ _ a z.1 z.2⟩)
end
/-- a crossing as a value -/
def Crs.ci (x : Crs) : Ci := .tup (.s x.wd :: x.is.map Ax.n)
theorem Crs.ax (x : Crs) : (Ax.s x.wd :: x.is.map Ax.n).map Ax.v = x.vs := by
  rw [Crs.vs_eq, List.map_cons, List.map_map]
  rfl
theorem AllAt.cis {Z : Addr → Prop} {H : Hp} {ps : List Addr} {cs : List Crs} (h : AllAt H Crs.vs ps cs) : CisAt Z H (ps.map V.ref) (cs.map Crs.ci) := by
  induction h with
  | nil => exact .nil
  | @cons p x ps xs a _ ih =>
    refine .cons ⟨p, rfl, by rw [Crs.ax]; exact a, ?_, ?_⟩ ih
    · rw [List.length_cons, List.length_map]
      cases x <;> (show _ ≤ _; simp [Crs.is])
    · rw [List.all_cons, show ((x.is.map Ax.n).all axLay) = true by rw [List.all_map]; exact List.all_eq_true.mpr fun _ _ => rfl, Bool.and_true]
      cases x <;> (simp only [Crs.wd, axLay]; decide +kernel)
/-! what a row-walk lets -/
def okA (f : Fd) : Ax → Bool
  | .n i => okF f i
  | _ => false
def canX (w : Wk) : Ci → Bool
  | .tup (.s x :: as) => match fld w x with
    | none => false
    | some fs => decide (as.length = fs.length) && (fs.zip as).all fun q => okA q.1 q.2
  | _ => false
def spFields0 (CW : Addr) : Sp := fun vs H Q _ => ∃ (p d al : Addr) (w : Wk) (v : V), vs = [.ref p, v] ∧ WkAt CW H p d al w ∧ (v = .non ∨ (∃ i, v = .int i) ∨ ∃ b, v = .bl b) ∧ ∀ H', Same H H' → Q .non H'
section
variable {P : Program} {w : World} {K : PySem.W.Frag} {mg : Str → Option Value} {base : Heap} {CW aN aD : Addr}
theorem ok_RowWalk_fields0 {f : Addr} {fd : FuncData} (F : Fun K "fields" "RowWalk.fields" s_RowWalk_fields f fd) (T : TxW K CW) (G : TxC K mg aN aD) : FnOk P w K mg base CX0 1 f fd ["self", "word"] (spFields0 CW) := by
  refine F.ok sc_RowWalk_fields (fun vs H Q E h => ?_) (fun cdv A outer s H vs Q E hr h => ?_)
  · obtain ⟨p, d, al, w, v, rfl, _⟩ := h
    rfl
  · obtain ⟨p, d, al, w, v, rfl, W, hv, k⟩ := h
    have nd := sc_RowWalk_fields.nd
    obtain ⟨tO, gO⟩ := G.gO
    obtain ⟨tR, gR⟩ := G.gR
    refine ⟨_, pss_cons (ps_if (pt_val (pe_fld (pv 0) rfl)) (pss_one (ps_ret pe_non)) pss_nil)
      (pss_cons (ps_if (pt_cmpR op_isN (pe_fld (pv 0) rfl) pe_non (nomark _)) (pss_one (ps_ret (pe_ifExp (pt_cmpR op_eq (pv 1) pe_str (nomark _)) (pe_lst (pa_cons (pe_glob (v := .ref aN) rfl G.gN rfl) pa_nil)) pe_non))) pss_nil)
      (pss_cons (ps_set (i := 2) nd rfl (Or.inl rfl) (pe_tup (pa_cons (pe_fld (pv 0) rfl) (pa_cons (pe_fld (pv 0) rfl) (pa_cons pe_non pa_nil)))))
      (pss_cons (ps_set (i := 3) nd rfl (Or.inl rfl) (pe_tup (pa_cons pe_int (pa_cons (pe_op op_sub (pe_glob (v := .int 6) rfl gR ⟨tR, rfl⟩) pe_int) (pa_cons (pe_fld (pv 0) rfl) pa_nil)))))
      (pss_cons (ps_if (PW.pt (pw_or (PW.pt (pw_and (pt_cmpR op_eq (pv 1) pe_str (nomark _)) (pw_and1 (pt_cmpR op_lt (pe_callB call_len_seq (by rfl) G.nLen PySem.boot_len (pa_cons (pe_fld (pv 0) rfl) pa_nil)) (pe_glob (v := .int 60) rfl gO ⟨tO, rfl⟩) (nomark _))))) (pw_or1 (PW.pt (pw_and (pt_cmpR op_eq (pv 1) pe_str (nomark _)) (pw_and1 (pt_cmpR op_gt (pe_callB call_len_seq (by rfl) G.nLen PySem.boot_len (pa_cons (pe_fld (pv 0) rfl) pa_nil)) pe_int (nomark _)))))))) (pss_one (ps_ret (pe_lst (pa_cons (pv 2) (pa_cons (pv 3) (pa_cons (pe_glob (v := .ref aD) rfl G.gD rfl) (pa_cons (pe_glob (v := .ref aN) rfl G.gN rfl) pa_nil))))))) pss_nil)
      (pss_cons (ps_if (PW.pt (pw_and (pt_cmpR op_eq (pv 1) pe_str (nomark _)) (pw_and1 (pt_cmpR op_gt (pe_callB call_len_seq (by rfl) G.nLen PySem.boot_len (pa_cons (pe_fld (pv 0) rfl) pa_nil)) pe_int (nomark _))))) (pss_cons (ps_set (i := 4) nd rfl (Or.inl rfl) (pe_ix ix_tup (pe_ix ix_list (pe_fld (pv 0) rfl) (pe_un un_neg pe_int) (fun _ _ => rfl)) pe_int (fun _ _ => rfl)))
      (pss_one (ps_ret (pe_lst (pa_cons (pv 2) (pa_cons (pe_tup (pa_cons (pv 4) (pa_cons (pv 4) (pa_cons pe_non pa_nil)))) (pa_cons (pe_glob (v := .ref aN) rfl G.gN rfl) pa_nil))))))) pss_nil)
      (pss_cons (ps_if (PW.pt (pw_and (pt_cmpR op_eq (pv 1) pe_str (nomark _)) (pw_and1 (pt_cmpR op_eq (pe_callB call_len_seq (by rfl) G.nLen PySem.boot_len (pa_cons (pe_fld (pv 0) rfl) pa_nil)) pe_int (nomark _))))) (pss_one (ps_ret (pe_lst (pa_cons (pe_glob (v := .ref aN) rfl G.gN rfl) pa_nil)))) pss_nil)
      (pss_one (ps_ret (pe_ifExp (pt_cmpR op_eq (pv 1) pe_str (nomark _)) (pe_lst (pa_cons (pv 2) pa_nil)) pe_non))))))))), ?_⟩
    have sc : ∀ x : Str, scal v (.str x) = true := fun x => by
      rcases hv with rfl | ⟨i, rfl⟩ | ⟨b, rfl⟩ <;> rfl
    have ne : ∀ x : Str, decide (v = .str x) = false := fun x => by
      rcases hv with rfl | ⟨i, rfl⟩ | ⟨b, rfl⟩ <;> exact decide_eq_false (fun z => by cases z)
    have fI : ∀ {H' : Hp}, Same H H' → H' p = some (.ins CW d (wkf w al)) := fun s => s _ _ W.hp
    refine ⟨_, rfl, p, CW, d, _, _, rfl, W.hp, T.cl, T.nO, rfl, _, rfl, ?_⟩
    cases ho : w.over with
    | true => exact iteT (k _ (Same.refl H))
    | false =>
      refine iteF ?_
      refine ⟨_, rfl, p, CW, d, _, _, rfl, W.hp, T.cl, T.nI, rfl, rfl, _, rfl, ?_⟩
      cases hi : w.ins with
      | none =>
        refine iteT ?_
        refine ⟨_, rfl, sc _, _, rfl, ?_⟩
        rw [ne]
        exact iteF (k _ (Same.refl H))
      | some r =>
        refine iteF ?_
        have eI : optV w.ins = .int r := by rw [hi]; rfl
        have fl : (wkf w al).lookup ("inside" : Str) = some (.int r) := by rw [← eI]; rfl
        refine ⟨_, rfl, p, CW, d, _, _, rfl, W.hp, T.cl, T.nI, fl, _, rfl, p, CW, d, _, _, rfl, W.hp, T.cl, T.nI, fl, (by show 3 ≤ sizeLine; decide), fun o1 n1 => ?_⟩
        have s1 := sadd (o := .tup [.int r, .int r, .non]) (Same.refl H) n1
        generalize upd H o1 (.tup [.int r, .int r, .non]) = H1 at s1 ⊢
        refine ⟨_, _, rfl, rfl, _, rfl, p, CW, d, _, _, rfl, fI s1, T.cl, T.nI, fl, (by show 3 ≤ sizeLine; decide), fun o2 n2 => ?_⟩
        have s2 := s1.trans (sadd (o := .tup [.int 0, .int (6 - 1), .int r]) (Same.refl H1) n2)
        generalize upd H1 o2 (.tup [.int 0, .int (6 - 1), .int r]) = H2 at s2 ⊢
        refine ⟨_, rfl, sc _, _, rfl, ?_⟩
        rw [ne]
        refine iteF (iteF ?_)
        refine ⟨_, rfl, sc _, _, rfl, ?_⟩
        rw [ne]
        refine iteF (iteF ?_)
        refine ⟨_, rfl, sc _, _, rfl, ?_⟩
        rw [ne]
        refine iteF ?_
        refine ⟨_, rfl, sc _, _, rfl, ?_⟩
        rw [ne]
        refine iteF ?_
        refine ⟨_, rfl, sc _, _, rfl, ?_⟩
        rw [ne]
        exact iteF (k _ s2)
end
end OH
end
section
set_option Elab.async false
set_option linter.all false
set_option maxRecDepth 100000
set_option maxHeartbeats 4000000
/-! Whether any value can follow. -/
namespace OH
open PySem PySem.Spec PyProof.Rows L2
theorem canX_s (w : Wk) (x : Str) (as : List Ax) : canX w (.tup (.s x :: as)) = match fld w x with | none => false | some fs => decide (as.length = fs.length) && (fs.zip as).all fun q => okA q.1 q.2 := rfl
def spCanA (CW : Addr) : Sp := fun vs H Q _ => ∃ (Z : Addr → Prop) (p d al : Addr) (v : V) (w : Wk) (ci : Ci), vs = [.ref p, v] ∧ WkAt CW H p d al w ∧ w.asks.length ≤ 1000000 ∧ CiAt Z H v ci ∧ ∀ H', Same H H' → Q (.bl (canX w ci)) H'
section
variable {P : Program} {w : World} {K : PySem.W.Frag} {mg : Str → Option Value} {base : Heap} {CW aN aD : Addr}
theorem ok_can_followA {f : Addr} {fd : FuncData} (F : Fun K "can_follow" "RowWalk.can_follow" s_RowWalk_can_follow f fd) (T : Txt K mg) (TW : TxW K CW) (nEnum : mg "enumerate" = none)
    (DF : MetF P w K mg base CX0 1 CW "fields" ["self", "word"] (fun vs H Q E => spFields K CW vs H Q E ∨ spFields0 CW vs H Q E)) : FnOk P w K mg base CX0 2 f fd ["self", "crossing"] (spCanA CW) := by
  refine F.ok sc_RowWalk_can_follow (fun vs H Q E h => ?_) (fun cdv A outer s H vs Q E hr h => ?_)
  · obtain ⟨Z, p, d, al, v, w, ci, rfl, _⟩ := h
    rfl
  · obtain ⟨Z, p, d, al, v, w, ci, rfl, W, hl, hc, k⟩ := h
    have nd := sc_RowWalk_can_follow.nd
    refine ⟨_, pss_cons (ps_if (PW.pt (pw_or (pt_not (pt_val (pe_callB call_isi (by rfl) T.nIsi (by decide +kernel) (pa_cons (pv 1) (pa_cons (pe_bltn (v := .ty "tuple") (by rfl) T.nTuple (by decide +kernel) rfl) pa_nil))))) (pw_or1 (pt_cmpR op_eq (pe_callB call_len_seq (by rfl) T.nLen PySem.boot_len (pa_cons (pv 1) pa_nil)) pe_int (nomark _))))) (pss_one (ps_ret pe_bl)) pss_nil)
      (pss_cons (ps_set (i := 2) nd rfl (Or.inl rfl) (pe_mD (pv 0) TW.cl DF hr pass0 (pa_cons (pe_ix ix_tup (pv 1) pe_int (fun _ _ => rfl)) pa_nil)))
      (pss_cons (ps_if (PW.pt (pw_or (pt_cmpR op_isN (pv 2) pe_non (nomark _)) (pw_or1 (pt_cmpR op_ne (pe_callB call_len_seq (by rfl) T.nLen PySem.boot_len (pa_cons (pv 1) pa_nil)) (pe_op op_add pe_int (pe_callB call_len_seq (by rfl) T.nLen PySem.boot_len (pa_cons (pv 2) pa_nil))) (nomark _))))) (pss_one (ps_ret pe_bl)) pss_nil)
      (pss_cons (ps_for PassesOwn.never rfl (pi_enumO rfl nEnum (pa_cons (pv 2) (pa_cons pe_int pa_nil))) (pg_tup (by rfl) (pgs_cons (pg_name (i := 3) nd rfl (Or.inl rfl)) (pgs_cons (pg_tup (by rfl) (pgs_cons (pg_name (i := 4) nd rfl (Or.inl rfl)) (pgs_cons (pg_name (i := 5) nd rfl (Or.inl rfl)) (pgs_cons (pg_name (i := 6) nd rfl (Or.inl rfl)) pgs_nil)))) pgs_nil)))
        (pss_cons (ps_set (i := 7) nd rfl (Or.inl rfl) (pe_ix ix_tup (pv 1) (pv 3) (fun _ _ => rfl)))
      (pss_one (ps_if (PW.pt (pw_or (pt_not (pt_val (pe_callB call_isi (by rfl) T.nIsi (by decide +kernel) (pa_cons (pv 7) (pa_cons (pe_bltn (v := .ty "int") (by rfl) T.nInt (by decide +kernel) rfl) pa_nil))))) (pw_or (pt_cmpR op_isB (pv 7) pe_bl (nomark _)) (pw_or (pt_cmpR op_isB (pv 7) pe_bl (nomark _)) (pw_or (pt_not (pt_chain op_le op_le (pv 4) (pv 7) (pv 5))) (pw_or1 (pt_cmpR op_eq (pv 7) (pv 6) (nomark _)))))))) (pss_one (ps_ret pe_bl)) pss_nil))))
      (pss_one (ps_ret pe_bl))))), ?_⟩
    cases ci with
    | oth =>
      have k0 := k H (Same.refl H)
      have hc' : Oth Z H v := hc
      rcases hc' with rfl | ⟨i, rfl⟩ | ⟨x, rfl⟩ | ⟨q, xs, rfl, _, hq⟩ | ⟨q, xs, rfl, _, hq⟩
      · exact ⟨_, rfl, _, _, _, _, _, rfl, .ty "tuple", .base .non, kit_ty (r := false) (by decide +kernel), _, rfl, iteT k0⟩
      · exact ⟨_, rfl, _, _, _, _, _, rfl, .ty "tuple", .base (.int i), kit_ty (r := false) (by decide +kernel), _, rfl, iteT k0⟩
      · exact ⟨_, rfl, _, _, _, _, _, rfl, .ty "tuple", .base (.str x), kit_ty (r := false) (by decide +kernel), _, rfl, iteT k0⟩
      · exact ⟨_, rfl, _, _, _, _, _, rfl, .ty "tuple", .base (.lst hq), kit_ty (r := false) (by decide +kernel), _, rfl, iteT k0⟩
      · exact ⟨_, rfl, _, _, _, _, _, rfl, .ty "tuple", .base (.dK hq), kit_ty (r := false) (by decide +kernel), _, rfl, iteT k0⟩
    | tup xs =>
    obtain ⟨c, rfl, hc, hi⟩ := hc
    cases xs with
    | nil =>
      refine ⟨_, rfl, _, _, _, _, _, rfl, .ty "tuple", .base (.tup hc), kit_ty (r := true) (by decide +kernel), _, rfl, iteF ?_⟩
      refine ⟨_, rfl, c, _, rfl, .inr (SqT.of hc), rfl, _, rfl, ?_⟩
      exact iteT (k H (Same.refl H))
    | cons a as =>
    have hi' : as.length ≤ 1000 := Nat.le_of_succ_le hi.1
    have none_ : (∀ x, a ≠ .s x) → canX w (.tup (a :: as)) = false := fun h => by
      cases a with
      | s x => exact absurd rfl (h x)
      | _ => rfl
    by_cases hs : ∃ x, a = .s x
    case neg =>
      have e : canX w (.tup (a :: as)) = false := none_ (fun x z => hs ⟨x, z⟩)
      have hv : a.v = .non ∨ (∃ i, a.v = .int i) ∨ ∃ b, a.v = .bl b := by
        cases a with
        | o => exact .inl rfl
        | n z => exact .inr (.inl ⟨z, rfl⟩)
        | t => exact .inr (.inr ⟨true, rfl⟩)
        | s x => exact absurd ⟨x, rfl⟩ hs
      rw [e] at k
      have hil : ((a.v :: as.map Ax.v : List V).length : Int) = (as.length : Int) + 1 := by
        rw [List.length_cons, List.length_map]
        omega
      refine ⟨_, rfl, _, _, _, _, _, rfl, .ty "tuple", .base (.tup hc), kit_ty (r := true) (by decide +kernel), _, rfl, iteF ?_⟩
      refine ⟨_, rfl, c, _, rfl, .inr (SqT.of hc), rfl, _, rfl, ?_⟩
      refine ite2 (fun q => ?_) (fun _ => ?_)
      · have : ((a.v :: as.map Ax.v : List V).length : Int) = 0 := by simpa using q
        omega
      refine ⟨_, rfl, p, d, _, rfl, W.hp, rfl, _, rfl, c, _, 0, _, rfl, rfl, SqT.of hc, atI_nat (j := 0) rfl, .inr ⟨p, d, al, w, _, rfl, W, hv, fun H1 s1 => ?_⟩⟩
      exact ⟨_, rfl, rfl, _, rfl, iteT (iteT (k H1 s1))⟩
    case pos =>
    obtain ⟨x, rfl⟩ := hs
    have hil : ((.str x :: as.map Ax.v : List V).length : Int) = (as.length : Int) + 1 := by
      rw [List.length_cons, List.length_map]
      omega
    refine ⟨_, rfl, _, _, _, _, _, rfl, .ty "tuple", .base (.tup hc), kit_ty (r := true) (by decide +kernel), _, rfl, iteF ?_⟩
    refine ⟨_, rfl, c, _, rfl, .inr (SqT.of hc), rfl, _, rfl, ?_⟩
    refine ite2 (fun q => ?_) (fun _ => ?_)
    · have : ((.str x :: as.map Ax.v : List V).length : Int) = 0 := by simpa using q
      omega
    refine ⟨_, rfl, p, d, _, rfl, W.hp, rfl, _, rfl, c, _, 0, _, rfl, rfl, SqT.of hc, atI_nat (j := 0) rfl, ?_⟩
    refine .inl ⟨p, d, al, w, x, rfl, W, hl, fun hn H1 s1 => ?_, fun fs hf l ps H1 s1 nl hls hq => ?_⟩
    · refine ⟨_, rfl, rfl, _, rfl, iteT ?_⟩
      refine iteT ?_
      have e : canX w (.tup (.s x :: as)) = false := by
        rw [canX_s, hn]
      have k1 := k H1 s1
      rw [e] at k1
      exact k1
    · have hlp : ps.length = fs.length := hq.len
      have hc1 := s1 _ _ hc
      refine ⟨_, rfl, rfl, _, rfl, iteF ?_⟩
      refine ⟨_, rfl, c, _, rfl, .inr (SqT.of hc1), _, rfl, l, _, rfl, .inl (SqL.of hls), _, _, rfl, rfl, rfl, _, rfl, ?_⟩
      have lps : (ps.map V.ref).length = fs.length := by rw [List.length_map, hlp]
      have ke : ∀ b, (decide (as.length = fs.length) && (fs.zip as).all fun q => okA q.1 q.2) = b → ∀ H', Same H H' → Q (.bl b) H' := fun b e H' s => by
        have k1 := k H' s
        rw [canX_s] at k1
        rw [hf] at k1
        dsimp only at k1
        rw [e] at k1
        exact k1
      refine ite2 (fun q => ?_) (fun q => ?_)
      · have q' : ((.str x :: as.map Ax.v : List V).length : Int) ≠ 1 + ((ps.map V.ref).length : Int) := by simpa using q
        have ne : ¬ as.length = fs.length := by
          rw [lps] at q'
          omega
        refine ke false ?_ _ s1
        rw [decide_eq_false ne, Bool.false_and]
      · have q' : ((.str x :: as.map Ax.v : List V).length : Int) = 1 + ((ps.map V.ref).length : Int) := by simpa using q
        have el : as.length = fs.length := by
          rw [lps] at q'
          omega
        refine ⟨_, rfl, l, _, rfl, SqL.of hls, ?_⟩
        refine for_it (walk_enumO (K := K) (a := l) (xs := ps.map V.ref)) (fun i σ H' => ∃ o3 o4 o5 o6 o7 : Option V, σ = [some (.ref p), some (.ref c), some (.ref l), o3, o4, o5, o6, o7] ∧ Same H1 H' ∧ (((fs.zip as).take i).all fun q => okA q.1 q.2) = true)
          ⟨none, none, none, none, none, rfl, Same.refl H1, rfl⟩ (fun i σ H' _ ⟨_, _, _, _, _, _, s, _⟩ => SqL.of (s _ _ hls)) ?turn ?done
        case done =>
          rintro σ H2 ⟨o3, o4, o5, o6, o7, rfl, s2, hall⟩
          have lz : (fs.zip as).length = fs.length := by rw [List.length_zip, el, Nat.min_self]
          rw [lps, ← lz, List.take_length] at hall
          refine ke true ?_ _ (s1.trans s2)
          rw [hall, decide_eq_true el]
          rfl
        case turn =>
          rintro i y σ H2 H3 hi' ⟨o3, o4, o5, o6, o7, rfl, s2, hall⟩ ⟨tp, x0, y0, rfl, ntp, rfl, ex, ey⟩
          cases ex
          have hi2 : i < fs.length := by rw [← lps]; exact hi'
          obtain ⟨fp, hfp⟩ : ∃ fp, ps[i]? = some fp := ⟨_, List.getElem?_eq_getElem (by rw [hlp]; exact hi2)⟩
          have ey' : y0 = .ref fp := by
            have ey2 : (ps.map V.ref)[i]? = some y0 := ey
            rw [List.getElem?_map, hfp] at ey2
            exact (Option.some.inj ey2).symm
          subst ey'
          obtain ⟨f, hf2, hfq⟩ := hq.get hfp
          obtain ⟨az, hz⟩ : ∃ az, as[i]? = some az := ⟨_, List.getElem?_eq_getElem (by omega)⟩
          have hzip : (fs.zip as)[i]? = some (f, az) := by rw [List.getElem?_zip_eq_some]; exact ⟨hf2, hz⟩
          have s3 := sadd (o := .tup [.int ((i + 1 : Nat) : Int), .ref fp]) s2 ntp
          have htp : upd H2 tp (.tup [.int ((i + 1 : Nat) : Int), .ref fp]) tp = some (.tup [.int ((i + 1 : Nat) : Int), .ref fp]) := upd_same
          generalize upd H2 tp (.tup [.int ((i + 1 : Nat) : Int), .ref fp]) = H3 at s3 htp ⊢
          have bad : okA f az = false → Q (.bl false) H3 := fun e => by
            refine ke false ?_ _ (s1.trans s3)
            have : ((fs.zip as).all fun q => okA q.1 q.2) = false := List.all_eq_false.mpr ⟨(f, az), List.mem_of_getElem? hzip, by rw [e]; exact Bool.false_ne_true⟩
            rw [this, Bool.and_false]
          have good : okA f az = true → (((fs.zip as).take (i + 1)).all fun q => okA q.1 q.2) = true := fun e => by
            rw [List.take_add_one, hzip, List.all_append, hall]
            show (true && (okA f az && true)) = true
            rw [e]
            rfl
          have hfq3 := hfq.sm s3
          have hc3 := s3 _ _ hc1
          obtain ⟨lo, hi, ot⟩ := f
          refine ⟨tp, _, rfl, SqT.of htp, rfl, _, _, rfl, _, _, rfl, fp, _, rfl, hfq3, rfl, _, _, rfl, _, _, rfl, _, _, rfl, rfl, rfl, ?_⟩
          refine ⟨_, rfl, _, rfl, c, _, ((i + 1 : Nat) : Int), _, rfl, rfl, SqT.of hc3, atI_nat (j := i + 1) (v := az.v) (by show (as.map Ax.v)[i]? = _; rw [List.getElem?_map, hz]; rfl), ?_⟩
          cases az with
          | o => exact ⟨_, rfl, _, _, _, _, _, rfl, .ty "int", .base .non, kit_ty (r := false) (by decide +kernel), _, rfl, iteT (bad rfl)⟩
          | s y => exact ⟨_, rfl, _, _, _, _, _, rfl, .ty "int", .base (.str y), kit_ty (r := false) (by decide +kernel), _, rfl, iteT (bad rfl)⟩
          | t =>
            refine ⟨_, rfl, _, _, _, _, _, rfl, .ty "int", .base (.bl true), kit_ty (r := true) (by decide +kernel), _, rfl, iteF ?_⟩
            exact ⟨_, rfl, true, rfl, .inr ⟨true, rfl, _, rfl, iteT (bad rfl)⟩⟩
          | n z =>
          refine ⟨_, rfl, _, _, _, _, _, rfl, .ty "int", .base (.int z), kit_ty (r := true) (by decide +kernel), _, rfl, iteF ?_⟩
          refine ⟨_, rfl, true, rfl, .inl ⟨⟨z, rfl⟩, _, rfl, iteF ?_⟩⟩
          refine ⟨_, rfl, false, rfl, .inl ⟨⟨z, rfl⟩, _, rfl, iteF ?_⟩⟩
          refine ⟨_, rfl, _, rfl, _, _, rfl, rfl, _, rfl, ?_⟩
          refine ite2 (fun h1 => ?_) (fun h1 => ?_)
          · refine ⟨_, rfl, _, _, rfl, rfl, _, rfl, ?_⟩
            cases h2 : decide (z ≤ hi) with
            | false =>
              refine iteT (iteT (bad ?_))
              show (decide (lo ≤ z) && decide (z ≤ hi) && _) = false
              rw [h2, Bool.and_false, Bool.false_and]
            | true =>
              refine iteF ?_
              refine ⟨_, rfl, _, rfl, ?_⟩
              have sc : scal (V.int z) (optV ot) = true := by cases ot <;> rfl
              have eo : decide ((Ax.n z).v = optV ot) = decide (ot = some z) := by
                cases ot with
                | none => rfl
                | some o =>
                  show decide (V.int z = V.int o) = _
                  by_cases e : o = z
                  · subst e
                    rw [decide_eq_true rfl, decide_eq_true rfl]
                  · rw [decide_eq_false (fun y => e (Option.some.inj y)), decide_eq_false (fun y => e (V.int.inj y).symm)]
              refine ⟨sc, _, rfl, ?_⟩
              rw [eo]
              have e0 : okA (lo, hi, ot) (.n z) = !decide (ot = some z) := by
                show (decide (lo ≤ z) && decide (z ≤ hi) && !decide (ot = some z)) = _
                rw [h1, h2]
                rfl
              refine ite2 (fun h3 => ?_) (fun h3 => ?_)
              · exact bad (by rw [e0, h3]; rfl)
              · exact ⟨_, _, _, _, _, rfl, s3, good (by rw [e0, Bool.eq_false_iff.mpr h3]; rfl)⟩
          · refine ⟨_, rfl, iteT (iteT (bad ?_))⟩
            show (decide (lo ≤ z) && decide (z ≤ hi) && _) = false
            rw [Bool.eq_false_iff.mpr h1, Bool.false_and, Bool.false_and]
end
end OH
end
section
set_option Elab.async false
set_option linter.all false
set_option maxRecDepth 100000
set_option maxHeartbeats 4000000
/-! Any values judged: rows. -/
namespace OH
open PySem PySem.Spec PyProof.Rows L2
def crsX : Ci → Option Crs
  | .tup (.s x :: as) => match as with
    | [.n a] => if x = "start" then some (.start a) else if x = "done" then some (.done a) else if x = "end" then some (.fin a) else none
    | [.n a, .n b, .n c] => if x = "back" then some (.back a b c) else none
    | [.n a, .n b, .n c, .n d] => if x = "call" then some (.call a b c d) else if x = "deep" then some (.deep a b c d) else none
    | _ => none
  | _ => none
theorem crsX_ci (x : Crs) : crsX x.ci = some x := by
  cases x <;> rfl
theorem okA_ints : ∀ (fs : List Fd) (as : List Ax), as.length = fs.length → ((fs.zip as).all fun q => okA q.1 q.2) = true → ∃ is : List Int, as = is.map Ax.n ∧ ((fs.zip is).all fun q => okF q.1 q.2) = true
  | [], [], _, _ => ⟨[], rfl, rfl⟩
  | f :: fs, a :: as, l, h => by
    rw [List.zip_cons_cons, List.all_cons, Bool.and_eq_true] at h
    obtain ⟨is, e, g⟩ := okA_ints fs as (Nat.succ.inj l) h.2
    cases a with
    | n z => exact ⟨z :: is, by rw [e]; rfl, by rw [List.zip_cons_cons, List.all_cons, g, Bool.and_true]; exact h.1⟩
    | _ => exact absurd h.1 Bool.false_ne_true
theorem okA_map : ∀ (fs : List Fd) (is : List Int), ((fs.zip (is.map Ax.n)).all fun q => okA q.1 q.2) = (fs.zip is).all fun q => okF q.1 q.2
  | [], _ => rfl
  | _ :: _, [] => rfl
  | f :: fs, i :: is => by
    show (okF f i && ((fs.zip (is.map Ax.n)).all fun q => okA q.1 q.2)) = (okF f i && ((fs.zip is).all fun q => okF q.1 q.2))
    rw [okA_map fs is]
theorem canX_ci (w : Wk) (x : Crs) : canX w x.ci = canC w x := by
  show canX w (.tup (.s x.wd :: x.is.map Ax.n)) = canF w x.wd x.is
  rw [canX_s]
  unfold canF
  cases fld w x.wd with
  | none => rfl
  | some fs =>
    show (decide ((x.is.map Ax.n).length = fs.length) && _) = _
    rw [List.length_map, okA_map]
theorem fld_cases {w : Wk} {x : Str} {fs : List Fd} (h : fld w x = some fs) : (x = "start" ∧ fs.length = 1) ∨ (x = "call" ∧ fs.length = 4) ∨ (x = "deep" ∧ fs.length = 4) ∨ (x = "back" ∧ fs.length = 3) ∨ (x = "done" ∧ fs.length = 1) ∨ (x = "end" ∧ fs.length = 1) := by
  unfold fld at h
  split at h
  · cases h
  · split at h
    · split at h
      · next e => cases h; exact .inl ⟨e, rfl⟩
      · cases h
    · split at h
      · next e =>
        cases h
        rcases e with e | e
        · exact .inr (.inl ⟨e.1, rfl⟩)
        · exact .inr (.inr (.inl ⟨e.1, rfl⟩))
      · split at h
        · next e => cases h; exact .inr (.inr (.inr (.inl ⟨e.1, rfl⟩)))
        · split at h
          · next e => cases h; exact .inr (.inr (.inr (.inr (.inl ⟨e.1, rfl⟩))))
          · split at h
            · next e => cases h; exact .inr (.inr (.inr (.inr (.inr ⟨e, rfl⟩))))
            · cases h
theorem can_crs {w : Wk} {c : Ci} (h : canX w c = true) : ∃ x : Crs, c = x.ci ∧ canC w x = true := by
  match c, h with
  | .oth, h => cases h
  | .tup [], h => cases h
  | .tup (.n _ :: _), h => cases h
  | .tup (.t :: _), h => cases h
  | .tup (.o :: _), h => cases h
  | .tup (.s x :: as), h =>
    have h0 := h
    rw [canX_s] at h
    cases hf : fld w x with
    | none => rw [hf] at h; cases h
    | some fs =>
      rw [hf] at h
      have h' : (decide (as.length = fs.length) && (fs.zip as).all fun q => okA q.1 q.2) = true := h
      rw [Bool.and_eq_true, decide_eq_true_iff] at h'
      obtain ⟨is, rfl, g⟩ := okA_ints fs as h'.1 h'.2
      have l := h'.1
      rw [List.length_map] at l
      have fin : ∀ y : Crs, y.wd = x → y.is = is → ∃ x_1 : Crs, Ci.tup (.s x :: is.map Ax.n) = x_1.ci ∧ canC w x_1 = true := fun y e1 e2 => by
        subst e1 e2
        exact ⟨y, rfl, by rw [← canX_ci]; exact h0⟩
      rcases fld_cases hf with ⟨e, lf⟩ | ⟨e, lf⟩ | ⟨e, lf⟩ | ⟨e, lf⟩ | ⟨e, lf⟩ | ⟨e, lf⟩
      · rw [lf] at l
        match is, l with
        | [a], _ => exact fin (.start a) e.symm rfl
      · rw [lf] at l
        match is, l with
        | [a, b, c, d], _ => exact fin (.call a b c d) e.symm rfl
      · rw [lf] at l
        match is, l with
        | [a, b, c, d], _ => exact fin (.deep a b c d) e.symm rfl
      · rw [lf] at l
        match is, l with
        | [a, b, c], _ => exact fin (.back a b c) e.symm rfl
      · rw [lf] at l
        match is, l with
        | [a], _ => exact fin (.done a) e.symm rfl
      · rw [lf] at l
        match is, l with
        | [a], _ => exact fin (.fin a) e.symm rfl
def goX : Wk → List Ci → Bool
  | _, [] => true
  | w, c :: cs => canX w c && match crsX c with
    | some x => goX (tk w x) cs
    | none => false
def goodRt : Rt → Bool
  | .seq [] => false
  | .seq (c :: cs) => goX w0 (c :: cs)
  | .oth => false
theorem goX_app : ∀ (xs : List Crs) (ys : List Ci) (w : Wk), goX w (xs.map Crs.ci ++ ys) = (goodGo w xs && goX (wk w xs) ys)
  | [], ys, w => rfl
  | x :: xs, ys, w => by
    show (canX w x.ci && match crsX x.ci with | some x => goX (tk w x) (xs.map Crs.ci ++ ys) | none => false) = ((canC w x && goodGo (tk w x) xs) && goX (wk (tk w x) xs) ys)
    rw [crsX_ci, canX_ci]
    show (canC w x && goX (tk w x) (xs.map Crs.ci ++ ys)) = _
    rw [goX_app xs ys, Bool.and_assoc]
theorem goX_map (xs : List Crs) (w : Wk) : goX w (xs.map Crs.ci) = goodGo w xs := by
  have := goX_app xs [] w
  rw [List.append_nil] at this
  rw [this]
  exact Bool.and_true _
theorem goX_crs : ∀ (cs : List Ci) (w : Wk), goX w cs = true → ∃ xs : List Crs, cs = xs.map Crs.ci ∧ goodGo w xs = true
  | [], w, _ => ⟨[], rfl, rfl⟩
  | c :: cs, w, h => by
    have h' : (canX w c && match crsX c with | some x => goX (tk w x) cs | none => false) = true := h
    rw [Bool.and_eq_true] at h'
    obtain ⟨x, rfl, hx⟩ := can_crs h'.1
    have h2 := h'.2
    rw [crsX_ci] at h2
    obtain ⟨xs, e, g⟩ := goX_crs cs (tk w x) h2
    exact ⟨x :: xs, by rw [e]; rfl, by show (canC w x && goodGo (tk w x) xs) = true; rw [hx, g]; rfl⟩
theorem goodRt_crs {r : Rt} (h : goodRt r = true) : ∃ xs : List Crs, r = .seq (xs.map Crs.ci) ∧ goodB xs = true := by
  match r, h with
  | .seq (c :: cs), h =>
    obtain ⟨xs, e, g⟩ := goX_crs (c :: cs) w0 h
    refine ⟨xs, by rw [e], ?_⟩
    unfold goodB
    rw [g]
    cases xs with
    | nil => cases e
    | cons _ _ => rfl
theorem goodRt_map (xs : List Crs) : goodRt (.seq (xs.map Crs.ci)) = goodB xs := by
  cases xs with
  | nil => rfl
  | cons x xs =>
    show goX w0 ((x :: xs).map Crs.ci) = goodB (x :: xs)
    rw [goX_map]
    rfl
def spGoodX : Sp := fun vs H Q _ => ∃ (Z : Addr → Prop) (v : V) (r : Rt), vs = [v] ∧ RtAt Z H v r ∧ ∀ H', Same H H' → Q (.bl (goodRt r)) H'
section
variable {P : Program} {w : World} {K : PySem.W.Frag} {mg : Str → Option Value} {base : Heap} {CW aN aD : Addr}
theorem ok_good_rowX {f : Addr} {fd : FuncData} (F : Fun K "good_row" "good_row" s_good_row f fd) (T : Txt K mg) (TW : TxW K CW)
    (DK : MakF P w K mg base CX0 2 "RowWalk" CW ["self"] (spKInit CW)) (DC : MetF P w K mg base CX0 3 CW "can_follow" ["self", "crossing"] (spCanA CW)) (DT : MetF P w K mg base CX0 3 CW "take" ["self", "crossing"] (spTake CW)) :
    FnOk P w K mg base CX0 4 f fd ["value"] spGoodX := by
  refine F.ok sc_good_row (fun vs H Q E h => ?_) (fun cdv A outer s H vs Q E hr h => ?_)
  · obtain ⟨Z, v, r, rfl, _⟩ := h
    rfl
  · obtain ⟨Z, v, r, rfl, hv, k⟩ := h
    have nd := sc_good_row.nd
    cases r with
    | oth =>
      refine ⟨_, pss_cons (ps_if (PW.pt (pw_or (pt_not (pt_val (pe_callB call_isiT (by rfl) T.nIsi (by decide +kernel) (pa_cons (pv 0) (pa_cons (pe_tup (pa_cons (pe_bltn (v := .ty "list") (by rfl) T.nList (by decide +kernel) rfl) (pa_cons (pe_bltn (v := .ty "tuple") (by rfl) T.nTuple (by decide +kernel) rfl) pa_nil))) pa_nil))))) (pw_or1 (pt_cmpR op_eq (pe_callB call_len_seq (by rfl) T.nLen PySem.boot_len (pa_cons (pv 0) pa_nil)) pe_int (nomark _))))) (pss_one (ps_ret pe_bl)) pss_nil)
      (pss_cons (ps_set (i := 1) nd rfl (Or.inl rfl) (pe_kD0 DK hr rfl pass0))
      (pss_cons (ps_for PassesOwn.never rfl (pi_list (pv 0)) (pg_name (i := 2) nd rfl (Or.inl rfl))
        (pss_cons (ps_if (pt_not (pt_val (pe_mD (pv 1) TW.cl DC hr pass0 (pa_cons (pv 2) pa_nil)))) (pss_one (ps_ret pe_bl)) pss_nil)
      (pss_one (ps_expr (pe_mD (pv 1) TW.cl DT hr pass0 (pa_cons (pv 2) pa_nil))))))
      (pss_one (ps_ret pe_bl)))), ?_⟩
      refine ⟨_, rfl, (by show 2 ≤ sizeLine; decide), fun tp ntp => ?_⟩
      have s1 := sadd (o := .tup [.ty "list", .ty "tuple"]) (Same.refl H) ntp
      have htp : upd H tp (.tup [.ty "list", .ty "tuple"]) tp = some (.tup [.ty "list", .ty "tuple"]) := upd_same
      generalize upd H tp (.tup [.ty "list", .ty "tuple"]) = H1 at s1 htp ⊢
      rcases hv with rfl | ⟨x, rfl⟩ | ⟨d, kvs, rfl, _, hd⟩
      · refine ⟨_, tp, _, _, _, _, rfl, htp, .cons (.ty _) (.cons (.ty _) .nil), .base .non, kitAny_cons (kit_ty (r := false) (by decide +kernel)) (fun _ => kitAny_cons (kit_ty (r := false) (by decide +kernel)) (fun _ => kitAny_nil) (fun z => nomatch z)) (fun z => nomatch z), _, rfl, iteT ?_⟩
        exact k _ s1
      · refine ⟨_, tp, _, _, _, _, rfl, htp, .cons (.ty _) (.cons (.ty _) .nil), .base (.str x), kitAny_cons (kit_ty (r := false) (by decide +kernel)) (fun _ => kitAny_cons (kit_ty (r := false) (by decide +kernel)) (fun _ => kitAny_nil) (fun z => nomatch z)) (fun z => nomatch z), _, rfl, iteT ?_⟩
        exact k _ s1
      · refine ⟨_, tp, _, _, _, _, rfl, htp, .cons (.ty _) (.cons (.ty _) .nil), .base (.dK (s1 _ _ hd)), kitAny_cons (kit_ty (r := false) (by decide +kernel)) (fun _ => kitAny_cons (kit_ty (r := false) (by decide +kernel)) (fun _ => kitAny_nil) (fun z => nomatch z)) (fun z => nomatch z), _, rfl, iteT ?_⟩
        exact k _ s1
    | seq cs =>
    obtain ⟨l, vs, rfl, _, h1, h2, hn⟩ := hv
    have lp := h2.len
    rcases h1 with h1 | h1
    case inl =>
      refine ⟨_, pss_cons (ps_if (PW.pt (pw_or (pt_not (pt_val (pe_callB call_isiT (by rfl) T.nIsi (by decide +kernel) (pa_cons (pv 0) (pa_cons (pe_tup (pa_cons (pe_bltn (v := .ty "list") (by rfl) T.nList (by decide +kernel) rfl) (pa_cons (pe_bltn (v := .ty "tuple") (by rfl) T.nTuple (by decide +kernel) rfl) pa_nil))) pa_nil))))) (pw_or1 (pt_cmpR op_eq (pe_callB call_len_seq (by rfl) T.nLen PySem.boot_len (pa_cons (pv 0) pa_nil)) pe_int (nomark _))))) (pss_one (ps_ret pe_bl)) pss_nil)
      (pss_cons (ps_set (i := 1) nd rfl (Or.inl rfl) (pe_kD0 DK hr rfl pass0))
      (pss_cons (ps_for PassesOwn.never rfl (pi_list (pv 0)) (pg_name (i := 2) nd rfl (Or.inl rfl))
        (pss_cons (ps_if (pt_not (pt_val (pe_mD (pv 1) TW.cl DC hr pass0 (pa_cons (pv 2) pa_nil)))) (pss_one (ps_ret pe_bl)) pss_nil)
      (pss_one (ps_expr (pe_mD (pv 1) TW.cl DT hr pass0 (pa_cons (pv 2) pa_nil))))))
      (pss_one (ps_ret pe_bl)))), ?_⟩
      refine ⟨_, rfl, (by show 2 ≤ sizeLine; decide), fun tp ntp => ?_⟩
      have s1 := sadd (o := .tup [.ty "list", .ty "tuple"]) (Same.refl H) ntp
      have htp : upd H tp (.tup [.ty "list", .ty "tuple"]) tp = some (.tup [.ty "list", .ty "tuple"]) := upd_same
      generalize upd H tp (.tup [.ty "list", .ty "tuple"]) = H1 at s1 htp ⊢
      have hl1 := s1 _ _ h1
      refine ⟨_, tp, _, _, _, _, rfl, htp, .cons (.ty _) (.cons (.ty _) .nil), .base (.lst hl1), kitAny_cons (kit_ty (r := true) (by decide +kernel)) (fun z => nomatch z) (fun _ => rfl), _, rfl, iteF ?_⟩
      refine ⟨_, rfl, l, _, rfl, .inl (SqL.of hl1), rfl, _, rfl, ?_⟩
      refine ite2 (fun q => ?_) (fun q => ?_)
      · have e0 : (vs.length : Int) = 0 := by simpa using q
        have e : cs = [] := by
          rw [lp] at e0
          exact List.length_eq_zero_iff.mp (by omega)
        subst e
        exact k H1 s1
      · have e0 : ¬ (vs.length : Int) = 0 := by simpa using q
        have ne : goodRt (.seq cs) = goX w0 cs := by
          cases cs with
          | nil => rw [lp] at e0; exact absurd rfl e0
          | cons _ _ => rfl
        rw [ne] at k
        intro p d np ndx npd
        have s2 := sadd (o := .ins CW d []) (sadd (o := .own p) (Same.refl H1) ndx) (by rw [upd_ne npd.symm]; exact np)
        have hp2 : upd (upd H1 d (.own p)) p (.ins CW d []) p = some (.ins CW d []) := upd_same
        have npH : H p = none := s1.free np
        generalize upd (upd H1 d (.own p)) p (.ins CW d []) = H2 at s2 hp2 ⊢
        refine ⟨p, d, rfl, hp2, fun al H3 nal alp W k3 => ⟨rfl, ?_⟩⟩
        have s12 := s1.trans s2
        have nalH : H al = none := s12.free nal
        have f2 : ∀ q ∈ [p], H q = none := fun q hq => by rw [List.mem_singleton.mp hq]; exact npH
        have f3 : ∀ q ∈ [p, al], H q = none := fun q hq => by
          rcases List.mem_cons.mp hq with z | z
          · rw [z]; exact npH
          · rw [List.mem_singleton.mp z]; exact nalH
        have s3 : Same H H3 := Same.kept s12 k3 f2
        refine ⟨_, rfl, l, rfl, ⟨_, SqL.of (s3 _ _ h1)⟩, ?_⟩
        refine for_list (xs := vs) (fun i σ H' => ∃ (o : Option V) (xs : List Crs), σ = [some (.ref l), some (.ref p), o] ∧ Same H H' ∧ cs.take i = xs.map Crs.ci ∧ WkAt CW H' p d al (wk w0 xs) ∧ goodGo w0 xs = true) ⟨none, [], rfl, s3, rfl, W, rfl⟩ (fun i σ H' _ ⟨o, _, _, s, _⟩ => SqL.of (s _ _ h1)) ?turn ?done
        case done =>
          rintro σ H4 ⟨o, xs, rfl, s4, e4, W4, g4⟩
          rw [lp, List.take_length] at e4
          have k4 := k H4 s4
          rw [e4, goX_map, g4] at k4
          exact k4
        case turn =>
          rintro i y σ H4 hy ⟨o, xs, rfl, s4, e4, W4, g4⟩
          have hi : i < cs.length := by rw [← lp]; exact (List.getElem?_eq_some_iff.mp hy).1
          obtain ⟨ci, hci, hcy⟩ := h2.get hy
          have hc4 := hcy.same s4
          have lx : xs.length = i := by
            have := congrArg List.length e4
            rw [List.length_take, List.length_map] at this
            omega
          have lw : (wk w0 xs).asks.length ≤ 1000000 := by
            have := wk_len xs w0
            have e0 : w0.asks.length = 0 := rfl
            omega
          have split : cs = xs.map Crs.ci ++ (ci :: cs.drop (i + 1)) := by
            have e1 : cs = cs.take i ++ cs.drop i := (List.take_append_drop i cs).symm
            have e2 : cs.drop i = ci :: cs.drop (i + 1) := by
              have := List.getElem?_eq_some_iff.mp hci
              rw [List.drop_eq_getElem_cons hi, this.2]
            rw [e2, e4] at e1
            exact e1
          refine ⟨_, rfl, p, d, _, rfl, W4.hp, rfl, _, rfl, ?_⟩
          refine ⟨Z, p, d, al, y, _, ci, rfl, W4, lw, hc4, fun H5 s5 => ?_⟩
          have W5 : WkAt CW H5 p d al (wk w0 xs) := ⟨s5 _ _ W4.hp, by obtain ⟨as, a1, a2⟩ := W4.ha; exact ⟨as, s5 _ _ a1, a2.mono fun q xs e => s5 _ _ e⟩⟩
          refine ⟨_, rfl, ?_⟩
          cases hcan : canX (wk w0 xs) ci with
          | false =>
            refine iteT ?_
            have eg : goX w0 cs = false := by
              rw [split, goX_app, g4]
              show (true && (canX (wk w0 xs) ci && _)) = false
              rw [hcan]
              rfl
            have k5 := k H5 (s4.trans s5)
            rw [eg] at k5
            exact k5
          | true =>
            refine iteF ?_
            obtain ⟨x, rfl, hx⟩ := can_crs hcan
            obtain ⟨c, rfl, hcc, _⟩ := hc4
            rw [Crs.ax] at hcc
            refine ⟨_, rfl, p, d, _, rfl, W5.hp, rfl, _, rfl, ?_⟩
            refine ⟨p, d, al, c, _, x, rfl, W5, alp.symm, lw, s5 _ _ hcc, canC_back hx, fun H6 W6 k6 => ?_⟩
            refine ⟨some (.ref c), xs ++ [x], rfl, Same.kept (s4.trans s5) k6 f3, ?_, ?_, ?_⟩
            · rw [List.take_add_one, hci, e4, List.map_append]
              rfl
            · rw [wk_snoc]
              exact W6
            · rw [goodGo_app, g4]
              show (true && (canC (wk w0 xs) x && true)) = true
              rw [hx]
              rfl
    case inr =>
      refine ⟨_, pss_cons (ps_if (PW.pt (pw_or (pt_not (pt_val (pe_callB call_isiT (by rfl) T.nIsi (by decide +kernel) (pa_cons (pv 0) (pa_cons (pe_tup (pa_cons (pe_bltn (v := .ty "list") (by rfl) T.nList (by decide +kernel) rfl) (pa_cons (pe_bltn (v := .ty "tuple") (by rfl) T.nTuple (by decide +kernel) rfl) pa_nil))) pa_nil))))) (pw_or1 (pt_cmpR op_eq (pe_callB call_len_seq (by rfl) T.nLen PySem.boot_len (pa_cons (pv 0) pa_nil)) pe_int (nomark _))))) (pss_one (ps_ret pe_bl)) pss_nil)
      (pss_cons (ps_set (i := 1) nd rfl (Or.inl rfl) (pe_kD0 DK hr rfl pass0))
      (pss_cons (ps_for PassesOwn.never rfl (pi_tup (pv 0)) (pg_name (i := 2) nd rfl (Or.inl rfl))
        (pss_cons (ps_if (pt_not (pt_val (pe_mD (pv 1) TW.cl DC hr pass0 (pa_cons (pv 2) pa_nil)))) (pss_one (ps_ret pe_bl)) pss_nil)
      (pss_one (ps_expr (pe_mD (pv 1) TW.cl DT hr pass0 (pa_cons (pv 2) pa_nil))))))
      (pss_one (ps_ret pe_bl)))), ?_⟩
      refine ⟨_, rfl, (by show 2 ≤ sizeLine; decide), fun tp ntp => ?_⟩
      have s1 := sadd (o := .tup [.ty "list", .ty "tuple"]) (Same.refl H) ntp
      have htp : upd H tp (.tup [.ty "list", .ty "tuple"]) tp = some (.tup [.ty "list", .ty "tuple"]) := upd_same
      generalize upd H tp (.tup [.ty "list", .ty "tuple"]) = H1 at s1 htp ⊢
      have hl1 := s1 _ _ h1
      refine ⟨_, tp, _, _, _, _, rfl, htp, .cons (.ty _) (.cons (.ty _) .nil), .base (.tup hl1), kitAny_cons (kit_ty (r := false) (by decide +kernel)) (fun _ => kitAny_cons (kit_ty (r := true) (by decide +kernel)) (fun z => nomatch z) (fun _ => rfl)) (fun z => nomatch z), _, rfl, iteF ?_⟩
      refine ⟨_, rfl, l, _, rfl, .inr (SqT.of hl1), rfl, _, rfl, ?_⟩
      refine ite2 (fun q => ?_) (fun q => ?_)
      · have e0 : (vs.length : Int) = 0 := by simpa using q
        have e : cs = [] := by
          rw [lp] at e0
          exact List.length_eq_zero_iff.mp (by omega)
        subst e
        exact k H1 s1
      · have e0 : ¬ (vs.length : Int) = 0 := by simpa using q
        have ne : goodRt (.seq cs) = goX w0 cs := by
          cases cs with
          | nil => rw [lp] at e0; exact absurd rfl e0
          | cons _ _ => rfl
        rw [ne] at k
        intro p d np ndx npd
        have s2 := sadd (o := .ins CW d []) (sadd (o := .own p) (Same.refl H1) ndx) (by rw [upd_ne npd.symm]; exact np)
        have hp2 : upd (upd H1 d (.own p)) p (.ins CW d []) p = some (.ins CW d []) := upd_same
        have npH : H p = none := s1.free np
        generalize upd (upd H1 d (.own p)) p (.ins CW d []) = H2 at s2 hp2 ⊢
        refine ⟨p, d, rfl, hp2, fun al H3 nal alp W k3 => ⟨rfl, ?_⟩⟩
        have s12 := s1.trans s2
        have nalH : H al = none := s12.free nal
        have f2 : ∀ q ∈ [p], H q = none := fun q hq => by rw [List.mem_singleton.mp hq]; exact npH
        have f3 : ∀ q ∈ [p, al], H q = none := fun q hq => by
          rcases List.mem_cons.mp hq with z | z
          · rw [z]; exact npH
          · rw [List.mem_singleton.mp z]; exact nalH
        have s3 : Same H H3 := Same.kept s12 k3 f2
        refine ⟨_, rfl, l, rfl, ⟨_, SqT.of (s3 _ _ h1)⟩, ?_⟩
        refine for_tup (xs := vs) (fun i σ H' => ∃ (o : Option V) (xs : List Crs), σ = [some (.ref l), some (.ref p), o] ∧ Same H H' ∧ cs.take i = xs.map Crs.ci ∧ WkAt CW H' p d al (wk w0 xs) ∧ goodGo w0 xs = true) ⟨none, [], rfl, s3, rfl, W, rfl⟩ (fun i σ H' _ ⟨o, _, _, s, _⟩ => SqT.of (s _ _ h1)) ?turn ?done
        case done =>
          rintro σ H4 ⟨o, xs, rfl, s4, e4, W4, g4⟩
          rw [lp, List.take_length] at e4
          have k4 := k H4 s4
          rw [e4, goX_map, g4] at k4
          exact k4
        case turn =>
          rintro i y σ H4 hy ⟨o, xs, rfl, s4, e4, W4, g4⟩
          have hi : i < cs.length := by rw [← lp]; exact (List.getElem?_eq_some_iff.mp hy).1
          obtain ⟨ci, hci, hcy⟩ := h2.get hy
          have hc4 := hcy.same s4
          have lx : xs.length = i := by
            have := congrArg List.length e4
            rw [List.length_take, List.length_map] at this
            omega
          have lw : (wk w0 xs).asks.length ≤ 1000000 := by
            have := wk_len xs w0
            have e0 : w0.asks.length = 0 := rfl
            omega
          have split : cs = xs.map Crs.ci ++ (ci :: cs.drop (i + 1)) := by
            have e1 : cs = cs.take i ++ cs.drop i := (List.take_append_drop i cs).symm
            have e2 : cs.drop i = ci :: cs.drop (i + 1) := by
              have := List.getElem?_eq_some_iff.mp hci
              rw [List.drop_eq_getElem_cons hi, this.2]
            rw [e2, e4] at e1
            exact e1
          refine ⟨_, rfl, p, d, _, rfl, W4.hp, rfl, _, rfl, ?_⟩
          refine ⟨Z, p, d, al, y, _, ci, rfl, W4, lw, hc4, fun H5 s5 => ?_⟩
          have W5 : WkAt CW H5 p d al (wk w0 xs) := ⟨s5 _ _ W4.hp, by obtain ⟨as, a1, a2⟩ := W4.ha; exact ⟨as, s5 _ _ a1, a2.mono fun q xs e => s5 _ _ e⟩⟩
          refine ⟨_, rfl, ?_⟩
          cases hcan : canX (wk w0 xs) ci with
          | false =>
            refine iteT ?_
            have eg : goX w0 cs = false := by
              rw [split, goX_app, g4]
              show (true && (canX (wk w0 xs) ci && _)) = false
              rw [hcan]
              rfl
            have k5 := k H5 (s4.trans s5)
            rw [eg] at k5
            exact k5
          | true =>
            refine iteF ?_
            obtain ⟨x, rfl, hx⟩ := can_crs hcan
            obtain ⟨c, rfl, hcc, _⟩ := hc4
            rw [Crs.ax] at hcc
            refine ⟨_, rfl, p, d, _, rfl, W5.hp, rfl, _, rfl, ?_⟩
            refine ⟨p, d, al, c, _, x, rfl, W5, alp.symm, lw, s5 _ _ hcc, canC_back hx, fun H6 W6 k6 => ?_⟩
            refine ⟨some (.ref c), xs ++ [x], rfl, Same.kept (s4.trans s5) k6 f3, ?_, ?_, ?_⟩
            · rw [List.take_add_one, hci, e4, List.map_append]
              rfl
            · rw [wk_snoc]
              exact W6
            · rw [goodGo_app, g4]
              show (true && (canC (wk w0 xs) x && true)) = true
              rw [hx]
              rfl
end
end OH
end
section
set_option Elab.async false
set_option linter.all false
set_option maxRecDepth 100000
set_option maxHeartbeats 4000000
/-! Any values judged: is_row, need_row, walked, control_of, open_of. -/
namespace OH
open PySem PySem.Spec PyProof.Rows L2
/-- a row as a list or as a tuple -/
def RwX (H : Hp) (l : Addr) (cs : List Crs) : Prop := ∃ ps : List Addr, (H l = some (.lst (ps.map V.ref)) ∨ H l = some (.tup (ps.map V.ref))) ∧ AllAt H Crs.vs ps cs
theorem RwX.same {H H' : Hp} {l : Addr} {cs : List Crs} (h : RwX H l cs) (s : Same H H') : RwX H' l cs := by
  obtain ⟨ps, h1, h2⟩ := h
  exact ⟨ps, h1.elim (fun h => .inl (s _ _ h)) (fun h => .inr (s _ _ h)), h2.mono fun q xs e => s _ _ e⟩
theorem RwAt.x {H : Hp} {l : Addr} {cs : List Crs} (h : RwAt H l cs) : RwX H l cs := by
  obtain ⟨ps, h1, h2⟩ := h
  exact ⟨ps, .inl h1, h2⟩
theorem CisAt.crs {Z : Addr → Prop} {H : Hp} : ∀ {xs : List Crs} {vs : List V}, CisAt Z H vs (xs.map Crs.ci) → ∃ ps : List Addr, vs = ps.map V.ref ∧ AllAt H Crs.vs ps xs
  | [], _, h => by
    cases h
    exact ⟨[], rfl, .nil⟩
  | x :: xs, _, h => by
    cases h with
    | cons a b =>
      obtain ⟨ps, rfl, h2⟩ := CisAt.crs b
      obtain ⟨p, rfl, hp, _⟩ := a
      rw [Crs.ax] at hp
      exact ⟨p :: ps, rfl, .cons hp h2⟩
theorem RtAt.rwx {Z : Addr → Prop} {H : Hp} {v : V} {xs : List Crs} (h : RtAt Z H v (.seq (xs.map Crs.ci))) : ∃ l, v = .ref l ∧ RwX H l xs ∧ xs.length ≤ 2000 := by
  obtain ⟨l, vs, e, _, h1, h2, hn⟩ := h
  obtain ⟨ps, rfl, h3⟩ := h2.crs
  exact ⟨l, e, ⟨ps, h1, h3⟩, by rwa [List.length_map] at hn⟩
theorem RwX.rt {Z : Addr → Prop} {H : Hp} {l : Addr} {xs : List Crs} (h : RwX H l xs) (z : Z l) (hn : xs.length ≤ 2000) : RtAt Z H (.ref l) (.seq (xs.map Crs.ci)) := by
  obtain ⟨ps, h1, h2⟩ := h
  exact ⟨l, _, rfl, z, h1, h2.cis, by rw [List.length_map]; exact hn⟩
def spWalkX (CW : Addr) : Sp := fun vs H Q _ => ∃ (l : Addr) (cs : List Crs), vs = [.ref l] ∧ RwX H l cs ∧ cs.length ≤ 2000 ∧ goodB cs = true ∧ ∀ p d al H', Same H H' → H p = none → H al = none → p ≠ al → WkAt CW H' p d al (wk w0 cs) → Q (.ref p) H'
def spNeedX (CB : Addr) : Sp := fun vs H Q E => ∃ (Z : Addr → Prop) (v : V) (r : Rt), vs = [v] ∧ RtAt Z H v r ∧ (goodRt r = true → ∀ H', Same H H' → Q .non H') ∧ (goodRt r = false → ∀ H', Same H H' → E (.ref CB) none H')
def spControlX (CB : Addr) : Sp := fun vs H Q E => ∃ (Z : Addr → Prop) (v : V) (r : Rt), vs = [v] ∧ RtAt Z H v r ∧ (∀ cs : List Crs, r = .seq (cs.map Crs.ci) → goodB cs = true → ∀ H', Same H H' → Q (if (wk w0 cs).over = true then .non else optV (wk w0 cs).ins) H') ∧ (goodRt r = false → ∀ H', Same H H' → E (.ref CB) none H')
def spOpenX (CB : Addr) : Sp := fun vs H Q E => ∃ (Z : Addr → Prop) (v : V) (r : Rt), vs = [v] ∧ RtAt Z H v r ∧ (∀ cs : List Crs, r = .seq (cs.map Crs.ci) → goodB cs = true → ∀ al ps H', Same H H' → H al = none → H' al = some (.lst (ps.map V.ref)) → AllAt H' pairV ps (wk w0 cs).asks → Q (.ref al) H') ∧ (goodRt r = false → ∀ H', Same H H' → E (.ref CB) none H')
section
variable {P : Program} {w : World} {K : PySem.W.Frag} {mg : Str → Option Value} {base : Heap} {CW CB fN : Addr} {fdN : FuncData}
theorem ok_need_rowX {f : Addr} {fd : FuncData} (F : Fun K "need_row" "need_row" s_need_row f fd) (EB : ErrC K mg "BadRow" CB) (DG : DefF P w K mg base CX0 4 "good_row" ["value"] spGoodX) : FnOk P w K mg base (L2.CX P w) 5 f fd ["row"] (spNeedX CB) := by
  refine F.okX sc_need_row (fun vs H Q E h => ?_) (fun cdv A outer s H vs Q E hr h => ?_)
  · obtain ⟨Z, v, r, rfl, _⟩ := h
    rfl
  · obtain ⟨Z, v, r, rfl, hv, k1, k2⟩ := h
    refine ⟨_, pss_one (ps_if (pt_not (pt_val (pe_cD DG hr rfl pass0 (pa_cons (pv 0) pa_nil)))) (pss_one (ps_raise rfl (takes_of rfl rfl rfl rfl) (pmk_own PySem.F.excBase_ValueError EB.x EB.g EB.k (raises_own EB.b EB.t) (by exact rfl)))) pss_nil), ?_⟩
    refine ⟨_, rfl, Z, v, r, rfl, hv, fun H1 s1 => ?_⟩
    cases hg : goodRt r with
    | true => exact ⟨_, rfl, iteF (k1 hg H1 s1)⟩
    | false => exact ⟨_, rfl, iteT (k2 hg H1 s1)⟩
end
end OH
end
section
set_option Elab.async false
set_option linter.all false
set_option maxRecDepth 100000
set_option maxHeartbeats 4000000
/-! What can follow, in plain words. -/
namespace OH
open PySem PySem.Spec PyProof.Rows L2
def NumB (n : Int) : Bool := decide (0 ≤ n) && decide (n ≤ 9999)
def dorB (n : Int) : Bool := decide (0 ≤ n) && decide (n ≤ 5)
/-- a crossing that can follow where control is r -/
def folB (r : Int) (asks : List (Int × Int)) : Crs → Bool
  | .start _ => false
  | .call a b d n => decide (asks.length < 60) && decide (a = r) && dorB b && decide (b ≠ r) && dorB d && NumB n
  | .deep a b d n => decide (0 < asks.length) && decide (a = r) && dorB b && decide (b ≠ r) && dorB d && NumB n
  | .back a b n => decide (0 < asks.length) && decide (a = r) && decide (b = (asks.getLast?.getD (0, 0)).1) && NumB n
  | .done n => decide (asks.length = 0) && NumB n
  | .fin a => decide (a = r)
theorem okF_own_ (r a : Int) : okF (r, r, none) a = decide (a = r) := by
  show (decide (r ≤ a) && decide (a ≤ r) && !decide ((none : Option Int) = some a)) = _
  rw [decide_eq_false (by simp : ¬ (none : Option Int) = some a)]
  by_cases e : a = r
  · subst e
    simp
  · rw [decide_eq_false e]
    by_cases h : r ≤ a
    · rw [decide_eq_false (by omega : ¬ a ≤ r), Bool.and_false, Bool.false_and]
    · rw [decide_eq_false h, Bool.false_and, Bool.false_and]
theorem okF_num_ (n : Int) : okF numF n = NumB n := by
  show (decide ((0 : Int) ≤ n) && decide (n ≤ 9999) && !decide ((none : Option Int) = some n)) = _
  rw [decide_eq_false (by simp : ¬ (none : Option Int) = some n)]
  exact Bool.and_true _
theorem okF_dor_ (n : Int) : okF dorF n = dorB n := by
  show (decide ((0 : Int) ≤ n) && decide (n ≤ 5) && !decide ((none : Option Int) = some n)) = _
  rw [decide_eq_false (by simp : ¬ (none : Option Int) = some n)]
  exact Bool.and_true _
theorem okF_asked_ (r n : Int) : okF (0, 5, some r) n = (dorB n && decide (n ≠ r)) := by
  show (decide ((0 : Int) ≤ n) && decide (n ≤ 5) && !decide (some r = some n)) = _
  have e : decide (some r = some n) = decide (n = r) := by
    by_cases h : n = r
    · subst h; simp
    · rw [decide_eq_false h, decide_eq_false (fun z => h (Option.some.inj z).symm)]
  rw [e]
  by_cases h : n = r
  · subst h; simp
  · rw [decide_eq_false h, decide_eq_true h]
    rfl
theorem canC_run {w : Wk} {r : Int} (ho : w.over = false) (hi : w.ins = some r) (x : Crs) : canC w x = folB r w.asks x := by
  have fl : ∀ x : Str, fld w x = if (x = "call" ∧ w.asks.length < 60) ∨ (x = "deep" ∧ 0 < w.asks.length) then some [(r, r, none), (0, 5, some r), dorF, numF]
    else if x = "back" ∧ 0 < w.asks.length then some [(r, r, none), ((w.asks.getLast?.getD (0, 0)).1, (w.asks.getLast?.getD (0, 0)).1, none), numF]
    else if x = "done" ∧ w.asks.length = 0 then some [numF]
    else if x = "end" then some [(r, r, none)] else none := fun x => by
    unfold fld
    rw [ho, hi]
    rfl
  have n1 : ¬ ("call" : Str) = "deep" := by decide
  have n2 : ¬ ("call" : Str) = "back" := by decide
  have n3 : ¬ ("call" : Str) = "done" := by decide
  have n4 : ¬ ("call" : Str) = "end" := by decide
  have n5 : ¬ ("deep" : Str) = "call" := by decide
  have n6 : ¬ ("deep" : Str) = "back" := by decide
  have n7 : ¬ ("deep" : Str) = "done" := by decide
  have n8 : ¬ ("deep" : Str) = "end" := by decide
  have n9 : ¬ ("back" : Str) = "call" := by decide
  have m1 : ¬ ("back" : Str) = "deep" := by decide
  have m2 : ¬ ("back" : Str) = "done" := by decide
  have m3 : ¬ ("back" : Str) = "end" := by decide
  have m4 : ¬ ("done" : Str) = "call" := by decide
  have m5 : ¬ ("done" : Str) = "deep" := by decide
  have m6 : ¬ ("done" : Str) = "back" := by decide
  have m7 : ¬ ("done" : Str) = "end" := by decide
  have m8 : ¬ ("end" : Str) = "call" := by decide
  have m9 : ¬ ("end" : Str) = "deep" := by decide
  have k1 : ¬ ("end" : Str) = "back" := by decide
  have k2 : ¬ ("end" : Str) = "done" := by decide
  have k3 : ¬ ("start" : Str) = "call" := by decide
  have k4 : ¬ ("start" : Str) = "deep" := by decide
  have k5 : ¬ ("start" : Str) = "back" := by decide
  have k6 : ¬ ("start" : Str) = "done" := by decide
  have k7 : ¬ ("start" : Str) = "end" := by decide
  unfold canC canF
  cases x with
  | start n => rw [show Crs.wd (.start n) = "start" from rfl, fl]; simp [*, folB]
  | call a b d n =>
    rw [show Crs.wd (.call a b d n) = "call" from rfl, fl]
    by_cases h : w.asks.length < 60
    · rw [if_pos (.inl ⟨rfl, h⟩)]
      show (true && (okF (r, r, none) a && (okF (0, 5, some r) b && (okF dorF d && (okF numF n && true))))) = (decide (w.asks.length < 60) && decide (a = r) && dorB b && decide (b ≠ r) && dorB d && NumB n)
      rw [okF_own_, okF_asked_, okF_dor_, okF_num_, decide_eq_true h]
      simp only [Bool.true_and, Bool.and_true, Bool.and_assoc]
    · simp [*, folB]
  | deep a b d n =>
    rw [show Crs.wd (.deep a b d n) = "deep" from rfl, fl]
    by_cases h : 0 < w.asks.length
    · rw [if_pos (.inr ⟨rfl, h⟩)]
      show (true && (okF (r, r, none) a && (okF (0, 5, some r) b && (okF dorF d && (okF numF n && true))))) = (decide (0 < w.asks.length) && decide (a = r) && dorB b && decide (b ≠ r) && dorB d && NumB n)
      rw [okF_own_, okF_asked_, okF_dor_, okF_num_, decide_eq_true h]
      simp only [Bool.true_and, Bool.and_true, Bool.and_assoc]
    · simp [*, folB]
  | back a b n =>
    rw [show Crs.wd (.back a b n) = "back" from rfl, fl, if_neg (fun z => z.elim (fun z => n9 z.1) (fun z => m1 z.1))]
    by_cases h : 0 < w.asks.length
    · rw [if_pos ⟨rfl, h⟩]
      show (true && (okF (r, r, none) a && (okF _ b && (okF numF n && true)))) = (decide (0 < w.asks.length) && decide (a = r) && decide (b = (w.asks.getLast?.getD (0, 0)).1) && NumB n)
      rw [okF_own_, okF_own_, okF_num_, decide_eq_true h]
      simp only [Bool.true_and, Bool.and_true, Bool.and_assoc]
    · simp [*, folB]
  | done n =>
    rw [show Crs.wd (.done n) = "done" from rfl, fl, if_neg (fun z => z.elim (fun z => m4 z.1) (fun z => m5 z.1)), if_neg (fun z => m6 z.1)]
    by_cases h : w.asks.length = 0
    · rw [if_pos ⟨rfl, h⟩]
      show (true && (okF numF n && true)) = (decide (w.asks.length = 0) && NumB n)
      rw [okF_num_, decide_eq_true h]
      simp only [Bool.true_and, Bool.and_true]
    · simp [*, folB]
  | fin a =>
    rw [show Crs.wd (.fin a) = "end" from rfl, fl, if_neg (fun z => z.elim (fun z => m8 z.1) (fun z => m9 z.1)), if_neg (fun z => k1 z.1), if_neg (fun z => k2 z.1), if_pos rfl]
    show (true && (okF (r, r, none) a && true)) = decide (a = r)
    rw [okF_own_]
    simp only [Bool.true_and, Bool.and_true]
theorem canC_over {w : Wk} (ho : w.over = true) (x : Crs) : canC w x = false := by
  unfold canC canF fld
  rw [ho, if_pos rfl]
theorem canC_first (x : Crs) : canC w0 x = match x with | .start n => NumB n | _ => false := by
  cases x with
  | start n =>
    show (true && (okF numF n && true)) = NumB n
    rw [okF_num_, Bool.and_true]
    rfl
  | _ => rfl
end OH
end
section
set_option Elab.async false
set_option linter.all false
set_option maxRecDepth 100000
set_option maxHeartbeats 4000000
/-! The row-walk and the law's own state, one beside the other (of k55's V10). -/
namespace OH
open PySem PySem.Spec PyProof.Rows L2
theorem fol_back {r a b n : Int} {as : List (Int × Int)} (h : folB r as (.back a b n) = true) : 0 < as.length ∧ a = r ∧ b = (as.getLast?.getD (0, 0)).1 := by
  have h' : (decide (0 < as.length) && decide (a = r) && decide (b = (as.getLast?.getD (0, 0)).1) && NumB n) = true := h
  simp only [Bool.and_eq_true, decide_eq_true_eq] at h'
  exact ⟨h'.1.1.1, h'.1.1.2, h'.1.2⟩
def bB (hi i : Int) : Bool := decide (0 ≤ i) && decide (i < hi)
def formB : Crs → Bool
  | .start n => bB 10000 n
  | .call a b d n => bB 6 a && bB 6 b && bB 6 d && bB 10000 n && !decide (a = b)
  | .back a b n => bB 6 a && bB 6 b && bB 10000 n && !decide (a = b)
  | .deep a b d n => bB 6 a && bB 6 b && bB 6 d && bB 10000 n && !decide (a = b)
  | .done n => bB 10000 n
  | .fin a => bB 6 a
def mayB (s : Rs) : Crs → Bool
  | .start _ => false
  | .done _ => s.1.isSome && decide (s.2.length = 0)
  | .call a _ _ _ => match s.1 with
    | none => false
    | some r => decide (a = r) && decide (s.2.length < 60)
  | .back a b _ => match s.1 with
    | none => false
    | some r => decide (a = r) && (decide (0 < s.2.length) && decide ((s.2.getLast?.getD (0, 0)).1 = b))
  | .fin a => match s.1 with
    | none => false
    | some r => decide (a = r)
  | .deep a _ _ _ => match s.1 with
    | none => false
    | some r => decide (a = r) && decide (0 < s.2.length)
/-- open asks behind which r is in control -/
inductive AOk : Int → List (Int × Int) → Prop where
  | nil {r : Int} : 0 ≤ r → r ≤ 5 → AOk r []
  | snoc {p r : Int} {as : List (Int × Int)} : p ≠ r → 0 ≤ r → r ≤ 5 → AOk p as → AOk r (as ++ [(p, r)])
theorem AOk.rng {r : Int} {as : List (Int × Int)} (h : AOk r as) : 0 ≤ r ∧ r ≤ 5 := by
  cases h with
  | nil h0 h1 => exact ⟨h0, h1⟩
  | snoc _ h0 h1 _ => exact ⟨h0, h1⟩
theorem AOk.last {r : Int} {as : List (Int × Int)} (h : AOk r as) (hl : 0 < as.length) : (as.getLast?.getD (0, 0)).1 ≠ r ∧ AOk (as.getLast?.getD (0, 0)).1 as.dropLast := by
  cases h with
  | nil _ _ => exact absurd hl (Nat.lt_irrefl 0)
  | @snoc p r as hp h0 h1 ha =>
    rw [List.getLast?_append, List.dropLast_concat]
    exact ⟨hp, ha⟩
theorem bB6 {i : Int} (h0 : 0 ≤ i) (h5 : i ≤ 5) : bB 6 i = true := by
  show (decide (0 ≤ i) && decide (i < 6)) = true
  rw [decide_eq_true h0, decide_eq_true (by omega)]
  rfl
theorem dorB_6 (i : Int) : dorB i = bB 6 i := by
  show (decide (0 ≤ i) && decide (i ≤ 5)) = (decide (0 ≤ i) && decide (i < 6))
  congr 1
  exact decide_eq_decide.mpr (by omega)
theorem NumB_4 (i : Int) : NumB i = bB 10000 i := by
  show (decide (0 ≤ i) && decide (i ≤ 9999)) = (decide (0 ≤ i) && decide (i < 10000))
  congr 1
  exact decide_eq_decide.mpr (by omega)
/-- what can follow is what may follow, of the form of a crossing -/
theorem fol_may {r : Int} {as : List (Int × Int)} (ha : AOk r as) (x : Crs) : folB r as x = (formB x && mayB (some r, as) x) := by
  obtain ⟨r0, r5⟩ := ha.rng
  have b6 := bB6 r0 r5
  cases x with
  | start n =>
    show false = (_ && false)
    rw [Bool.and_false]
  | call a b d n =>
    show (decide (as.length < 60) && decide (a = r) && dorB b && decide (b ≠ r) && dorB d && NumB n) = ((bB 6 a && bB 6 b && bB 6 d && bB 10000 n && !decide (a = b)) && (decide (a = r) && decide (as.length < 60)))
    rw [dorB_6, dorB_6, NumB_4]
    by_cases e : a = r
    · subst e
      rw [b6]
      have e2 : decide (b ≠ a) = !decide (a = b) := by
        by_cases z : a = b
        · subst z; simp
        · have z' : ¬ b = a := fun y => z y.symm
          simp [z, z']
      rw [e2, decide_eq_true rfl]
      cases decide (as.length < 60) <;> cases bB 6 b <;> cases bB 6 d <;> cases bB 10000 n <;> cases decide (a = b) <;> rfl
    · rw [decide_eq_false e]
      simp
  | deep a b d n =>
    show (decide (0 < as.length) && decide (a = r) && dorB b && decide (b ≠ r) && dorB d && NumB n) = ((bB 6 a && bB 6 b && bB 6 d && bB 10000 n && !decide (a = b)) && (decide (a = r) && decide (0 < as.length)))
    rw [dorB_6, dorB_6, NumB_4]
    by_cases e : a = r
    · subst e
      rw [b6]
      have e2 : decide (b ≠ a) = !decide (a = b) := by
        by_cases z : a = b
        · subst z; simp
        · have z' : ¬ b = a := fun y => z y.symm
          simp [z, z']
      rw [e2, decide_eq_true rfl]
      cases decide (0 < as.length) <;> cases bB 6 b <;> cases bB 6 d <;> cases bB 10000 n <;> cases decide (a = b) <;> rfl
    · rw [decide_eq_false e]
      simp
  | back a b n =>
    show (decide (0 < as.length) && decide (a = r) && decide (b = (as.getLast?.getD (0, 0)).1) && NumB n) = ((bB 6 a && bB 6 b && bB 10000 n && !decide (a = b)) && (decide (a = r) && (decide (0 < as.length) && decide ((as.getLast?.getD (0, 0)).1 = b))))
    rw [NumB_4]
    by_cases e : a = r
    · subst e
      by_cases hl : 0 < as.length
      · obtain ⟨l1, l2⟩ := ha.last hl
        by_cases z : b = (as.getLast?.getD (0, 0)).1
        · subst z
          obtain ⟨q0, q5⟩ := l2.rng
          rw [b6, bB6 q0 q5, (decide_eq_false (fun y => l1 y.symm) : decide (a = (as.getLast?.getD (0, 0)).1) = false), decide_eq_true hl, (decide_eq_true rfl : decide (a = a) = true), (decide_eq_true rfl : decide ((as.getLast?.getD (0, 0)).1 = (as.getLast?.getD (0, 0)).1) = true)]
          cases bB 10000 n <;> rfl
        · rw [decide_eq_false z, (decide_eq_false (fun y => z y.symm) : decide ((as.getLast?.getD (0, 0)).1 = b) = false)]
          simp
      · rw [decide_eq_false hl]
        simp
    · rw [decide_eq_false e]
      simp
  | done n =>
    show (decide (as.length = 0) && NumB n) = (bB 10000 n && (true && decide (as.length = 0)))
    rw [NumB_4, Bool.true_and, Bool.and_comm]
  | fin a =>
    show decide (a = r) = (bB 6 a && decide (a = r))
    by_cases e : a = r
    · subst e
      rw [b6]
      rfl
    · rw [decide_eq_false e, Bool.and_false]
/-- the state that the law keeps of a walk -/
def WS (w : Wk) (s : Rs) : Prop := (w.over = true ∧ s.1 = none) ∨ ∃ r, w.over = false ∧ w.ins = some r ∧ s = (some r, w.asks) ∧ AOk r w.asks
theorem WS.can {w : Wk} {s : Rs} (h : WS w s) (x : Crs) : canC w x = (formB x && mayB s x) := by
  rcases h with ⟨h1, h2⟩ | ⟨r, h1, h2, rfl, h3⟩
  · rw [canC_over h1]
    have : mayB s x = false := by
      cases x <;> (unfold mayB; rw [h2]; try rfl)
    rw [this, Bool.and_false]
  · rw [canC_run h1 h2, fol_may h3]
theorem WS.step {w : Wk} {s : Rs} (h : WS w s) {x : Crs} (hc : canC w x = true) : WS (tk w x) (bh s x) := by
  rcases h with ⟨h1, h2⟩ | ⟨r, h1, h2, rfl, h3⟩
  · rw [canC_over h1] at hc
    cases hc
  · rw [canC_run h1 h2] at hc
    obtain ⟨r0, r5⟩ := h3.rng
    cases x with
    | start n => cases hc
    | call a b d n =>
      have hc' : (decide (w.asks.length < 60) && decide (a = r) && dorB b && decide (b ≠ r) && dorB d && NumB n) = true := hc
      simp only [Bool.and_eq_true, decide_eq_true_eq] at hc'
      obtain ⟨⟨⟨⟨⟨_, rfl⟩, hb⟩, hne⟩, _⟩, _⟩ := hc'
      have hb' : (decide (0 ≤ b) && decide (b ≤ 5)) = true := hb
      rw [Bool.and_eq_true, decide_eq_true_eq, decide_eq_true_eq] at hb'
      exact .inr ⟨b, h1, rfl, rfl, .snoc (fun z => hne z.symm) hb'.1 hb'.2 h3⟩
    | back a b n =>
      obtain ⟨e1, e2, e3⟩ := fol_back hc
      subst e3
      exact .inr ⟨_, h1, rfl, rfl, (h3.last e1).2⟩
    | deep a b d n => exact .inl ⟨rfl, rfl⟩
    | done n => exact .inl ⟨rfl, rfl⟩
    | fin a => exact .inl ⟨rfl, rfl⟩
theorem ws_start (n : Int) : WS (tk w0 (.start n)) (some 0, []) := .inr ⟨0, rfl, rfl, rfl, .nil (by decide) (by decide)⟩
theorem AOk.mem {r : Int} {as : List (Int × Int)} (h : AOk r as) : ∀ p ∈ as, (0 ≤ p.1 ∧ p.1 ≤ 5) ∧ 0 ≤ p.2 ∧ p.2 ≤ 5 := by
  induction h with
  | nil _ _ => intro p hp; cases hp
  | snoc _ h0 h5 ha ih =>
    intro p hp
    rcases List.mem_append.mp hp with hp | hp
    · exact ih p hp
    · rw [List.mem_singleton] at hp
      subst hp
      exact ⟨ha.rng, h0, h5⟩
end OH
end
section
set_option Elab.async false
set_option linter.all false
set_option maxRecDepth 100000
set_option maxHeartbeats 8000000
/-! Errors with two fields; Unfit. -/
namespace OH
open PySem PySem.Spec PyProof.Rows L2
/-- what __init__(self, v, u) with two fields f, g does -/
def spErr2 (C : Addr) (f g : Str) : Sp := fun vs H Q _ => ∃ (a : Addr) (v u : V), vs = [.ref a, v, u] ∧ FmtV v ∧ FmtV u ∧ H a = some (exo a C none) ∧
  ∀ dx, H dx = none → dx ≠ a → Q .non (upd (upd (upd H dx (exd dx [(f, v)])) a (exo a C (some dx))) dx (exd dx [(g, u), (f, v)]))
section
variable {X : Cx} {C fI : Addr} {x f g : Str} {e1 e2 : Expr} {ta : TA} {p pos : Pos} {fd : FuncData}
def tMk2 (C : Addr) (f g : Str) (ta : TA) : L2.St → Hp → XK → Prop := fun σ H Q => ta σ H fun vs H1 => ∃ v u, vs = [v, u] ∧ FmtV v ∧ FmtV u ∧ ∀ d, H1 d = none → Q (.ref C) (some d) (upd H1 d (.xd [(g, u), (f, v)]))
theorem pmk_err2 (T : ErrF X.prog X.K X.mg x f C) (iC : PySem.W.findIn X.K (.ref C) "__init__" = some (some (.ref fI))) (tI : PySem.W.typeIn X.K (.ref fI) = some (.type "function"))
    (F1 : FnOk X.prog X.w X.K X.mg X.base CX0 1 fI fd ["self", f, g] (spErr2 C f g)) (hr : Room 2 X.A) (hb : Binds X.K fd ["self", f, g] []) (hg : Gl X x) (ha : PA X [e1, e2] ta)
    (hdb : (x == ("__debug__" : Str)) = false := by decide) (he : starEach [e1, e2] X.env = (false, eval e1 X.env) :: starEach [e2] X.env := by rfl) (hpl : (backTo pos (starEach [e2] X.env)).any (·.1) = false := by rfl) :
    PMk X (.Call (.Name x p) [e1, e2] [] pos) (tMk2 C f g ta) := by
  intro pins s σ H Q I h
  refine pmk_oex (pos := pos) T.s.toOexC iC tI F1 hr hb .nil pass0 hg T.g (pa_up ha) hdb he hpl pins s σ H Q I ⟨_, h, fun vs H1 hv => ?_⟩
  obtain ⟨v, u, rfl, fv, fu, q⟩ := hv
  refine ⟨by show 2 ≤ 1000; omega, fun a na => ⟨a, v, u, rfl, fv, fu, upd_same, fun dx n1 n2 => ⟨rfl, dx, [(g, u), (f, v)], (upd_ne n2.symm).trans upd_same, upd_same, ?_, ?_⟩⟩⟩
  · rw [upd_ne n2] at n1
    exact n1
  · have n0 : H1 dx = none := by
      rw [upd_ne n2] at n1
      exact n1
    have eh : upd (L2.del (upd (upd (upd (upd H1 a (exo a C none)) dx (exd dx [(f, v)])) a (exo a C (some dx))) dx (exd dx [(g, u), (f, v)])) a) dx (.xd [(g, u), (f, v)]) = upd H1 dx (.xd [(g, u), (f, v)]) := by
      funext b
      by_cases h1 : b = dx
      · rw [h1, upd_same, upd_same]
      · rw [upd_ne h1, upd_ne h1]
        by_cases h2 : b = a
        · rw [h2, L2.del_same, na]
        · rw [L2.del_ne h2, upd_ne h1, upd_ne h2, upd_ne h1, upd_ne h2]
    have eh' : _ = _ := eh
    rw [eh']
    exact q dx n0
end
section
variable {P : Program} {w : World} {K : PySem.W.Frag} {mg : Str → Option Value} {base : Heap}
theorem scBadText : ScopeS ["self", "line", "column"] ["self", "line", "column"] (defScope s_BadText___init__) := ⟨rfl, rfl, rfl, by decide +kernel, rfl, by decide +kernel, by decide +kernel, by decide +kernel, rfl, rfl⟩
theorem ok_BadText_init {f C cc : Addr} {fd : FuncData} (F : FunS P K "__init__" "BadText.__init__" s_BadText___init__ f fd C cc) (T : ErrF P K mg "BadText" "line" C) (nA : PySem.W.findIn K (.ref C) "column" = some none) :
    FnOk P w K mg base CX0 1 f fd ["self", "line", "column"] (spErr2 C "line" "column") := by
  refine F.ok (k := 0) (pl := fun _ => pure false) T.s scBadText rfl rfl rfl (fun vs H Q E h => ?_) (fun _ => rfl) (fun _ => rfl) (fun _ _ => rfl) (fun _ _ => rfl) (fun cdv A outer s H vs Q E hr h => ?_)
  · obtain ⟨a, v, u, rfl, _⟩ := h
    rfl
  · obtain ⟨a, v, u, rfl, fv, fu, ha, k⟩ := h
    refine ⟨a, _, _, rfl, ha, pa_cons (pe_joined (PJ.cons pe_str (PJ.cons (pe_fmtA (pv 1)) (PJ.cons pe_str (PJ.cons (pe_fmtA (pv 2)) (PJ.cons pe_str PJ.nil)))))) pa_nil, pss_cons (ps_ost (pv 0) (pv 1)) (pss_one (ps_ost (pv 0) (pv 2))), ?_⟩
    obtain ⟨z, hz, lz⟩ := fv
    obtain ⟨y, hy, ly⟩ := fu
    have l1 : ("line " : Str).length = 5 := by decide +kernel
    have l2 : (", column " : Str).length = 9 := by decide +kernel
    have l3 : (": this token cannot stand here" : Str).length = 30 := by decide +kernel
    refine ⟨_, rfl, ?_, _, rfl, _, hz, _, rfl, ?_, _, rfl, ?_, _, rfl, _, hy, _, rfl, ?_, _, rfl, ?_, (by show 1 ≤ 1000; decide), ha, _, rfl, _, rfl, a, C, rfl, T.s.toOexC, T.no, .inl ⟨ha, fun dx n1 n2 => ?_⟩⟩
    · rw [Str.length_append, l1, sizeLine_eq]
      show 0 + 5 ≤ _
      omega
    · rw [Str.length_append, Str.length_append, l1, sizeLine_eq]
      show 0 + 5 + _ ≤ _
      omega
    · rw [Str.length_append, Str.length_append, Str.length_append, l1, l2, sizeLine_eq]
      show 0 + 5 + _ + 9 ≤ _
      omega
    · rw [Str.length_append, Str.length_append, Str.length_append, Str.length_append, l1, l2, sizeLine_eq]
      show 0 + 5 + _ + 9 + _ ≤ _
      omega
    · rw [Str.length_append, Str.length_append, Str.length_append, Str.length_append, Str.length_append, l1, l2, l3, sizeLine_eq]
      show 0 + 5 + _ + 9 + _ + 30 ≤ _
      omega
    · exact ⟨_, rfl, _, rfl, a, C, rfl, T.s.toOexC, nA, .inr ⟨dx, [("line", v)], upd_same, (upd_ne n2).trans upd_same, (by show 1 ≤ 900; decide), k dx n1 n2⟩⟩
end
end OH
end
section
set_option Elab.async false
set_option linter.all false
set_option maxRecDepth 100000
set_option maxHeartbeats 8000000
/-! Words that are numbers; fields. -/
namespace OH
open PySem PySem.Spec PyProof.Rows L2
def isDig (z : Str) : Bool := !decide (z.cps.toList < ("0" : Str).cps.toList) && !decide (("9" : Str).cps.toList < z.cps.toList)
/-- the signs of a text -/
def signs (z : Str) : List Str := z.cps.toList.map fun c => ⟨#[c]⟩
def areDig (z : Str) : Bool := decide (0 < z.length) && (signs z).all isDig
def headS (z : Str) : Str := match z.cps.toList with
  | c :: _ => ⟨#[c]⟩
  | [] => ""
def wholeT (z : Str) : Bool := areDig z && (decide (V.int (z.length : Int) = V.int 1) || !decide (V.str (headS z) = V.str "0"))
def spWritten : Sp := fun vs H Q _ => ∃ z : Str, vs = [.str z] ∧ z.length ≤ 100000 ∧ ∀ H', Same H H' → Q (.bl (wholeT z)) H'
def spAreDig : Sp := fun vs H Q _ => ∃ z : Str, vs = [.str z] ∧ z.length ≤ 100000 ∧ ∀ H', Same H H' → Q (.bl (areDig z)) H'
section
variable {P : Program} {w : World} {K : PySem.W.Frag} {mg : Str → Option Value} {base : Heap}
theorem dig128 : ∀ c : Nat, c < 128 → Unicode.isDigit c = isDig ⟨#[c]⟩ := by decide +kernel
theorem isDig_small {c : Nat} (h : isDig ⟨#[c]⟩ = true) : c < 128 := by
  have h2 : (!decide ([c] < ([48] : List Nat)) && !decide (([57] : List Nat) < [c])) = true := h
  have h3 := (Bool.and_eq_true_iff.mp h2).2
  by_cases hc : c < 128
  · exact hc
  · have : ([57] : List Nat) < [c] := List.Lex.rel (by omega)
    rw [decide_eq_true this] at h3
    cases h3
theorem all_list {p q : Nat → Bool} (h : ∀ c, p c = q c) : ∀ xs : List Nat, xs.all p = xs.all q := fun xs => by rw [show p = q from funext h]
theorem areDig_is (z : Str) : areDig z = (Txt.isascii z && Txt.isdigit z) := by
  unfold areDig Txt.isascii Txt.isdigit signs
  have e1 : decide (z.length > 0) = decide (0 < z.length) := rfl
  rw [← Array.all_toList, ← Array.all_toList, List.all_map, e1]
  generalize decide (0 < z.length) = b
  generalize z.cps.toList = xs
  rw [show ∀ x y w : Bool, (x && (y && w)) = (y && (x && w)) from by decide]
  congr 1
  induction xs with
  | nil => rfl
  | cons c xs ih =>
    rw [List.all_cons, List.all_cons, List.all_cons, ih]
    by_cases hc : c < 128
    · rw [dig128 c hc, decide_eq_true hc]
      show (isDig ⟨#[c]⟩ && _) = _
      cases isDig ⟨#[c]⟩ <;> simp
    · have e : isDig ⟨#[c]⟩ = false := by
        cases q : isDig ⟨#[c]⟩ with
        | true => exact absurd (isDig_small q) hc
        | false => rfl
      rw [decide_eq_false hc]
      show (isDig ⟨#[c]⟩ && _) = ((false && xs.all _) && _)
      rw [e]
      rfl
theorem scAreDig : FnScope ["text"] ["text"] (defScope s_are_digits) := ⟨rfl, rfl, rfl, by decide +kernel, rfl, by decide +kernel, by decide +kernel⟩
theorem ok_aredig {f : Addr} {fd : FuncData} (F : Fun K "are_digits" "are_digits" s_are_digits f fd) : FnOk P w K mg base CX0 2 f fd ["text"] spAreDig := by
  refine F.ok scAreDig (fun vs H Q E h => ?_) (fun cdv A outer s H vs Q E hr h => ?_)
  · obtain ⟨z, rfl, _⟩ := h
    rfl
  · obtain ⟨z, rfl, hz, k⟩ := h
    refine ⟨_, pss_one (ps_ret (pe_and (pe_bm0 PySem.F.plainAttrs_str PySem.F.slot_str_isascii PySem.F.type_str_isascii mt_isascii (pv 0))
      (pe_one (pe_bm0 PySem.F.plainAttrs_str PySem.F.slot_str_isdigit PySem.F.type_str_isdigit mt_isdigit (pv 0))))), ?_⟩
    have kz := k H (Same.refl H)
    rw [areDig_is] at kz
    refine ⟨_, rfl, rfl, z, rfl, rfl, trivial, _, rfl, ?_⟩
    cases e : Txt.isascii z with
    | false =>
      rw [e] at kz
      exact iteF kz
    | true =>
      rw [e] at kz
      exact iteT ⟨_, rfl, rfl, z, rfl, rfl, trivial, kz⟩
theorem scWritten : FnScope ["text"] ["text"] (defScope s_is_written_whole) := ⟨rfl, rfl, rfl, by decide +kernel, rfl, by decide +kernel, by decide +kernel⟩
theorem ok_written {f fD : Addr} {fd fdD : FuncData} (F : Fun K "is_written_whole" "is_written_whole" s_is_written_whole f fd) (T : Txt K mg)
    (FD : FnOk P w K mg base CX0 2 fD fdD ["text"] spAreDig) (mD : mg "are_digits" = some (.ref fD)) (kD : PySem.W.keepIn K (.ref fD) = true) (bD : Binds K fdD ["text"] []) :
    FnOk P w K mg base CX0 3 f fd ["text"] spWritten := by
  refine F.ok scWritten (fun vs H Q E h => ?_) (fun cdv A outer s H vs Q E hr h => ?_)
  · obtain ⟨z, rfl, _⟩ := h
    rfl
  · obtain ⟨z, rfl, hz, k⟩ := h
    have nd := scWritten.nd
    refine ⟨_, pss_one (ps_ret (pe_and (pe_call FD hr rfl mD kD bD .nil pass0 (pa_cons (pv 0) pa_nil))
      (pe_one (pe_or (pe_cmpR op_eq (pe_callB call_len_str (by rfl) T.nLen (by decide +kernel) (pa_cons (pv 0) pa_nil)) pe_int (nomark _))
        (pe_one (pe_cmpR op_ne (pe_ix ix_str (pv 0) pe_int (fun _ _ => rfl)) pe_str (nomark _))))))), ?_⟩
    refine ⟨_, rfl, z, rfl, hz, fun H1 s1 => ?_⟩
    refine ⟨_, rfl, ?_⟩
    cases e : areDig z with
    | false =>
      have e1 : wholeT z = false := by
        unfold wholeT
        rw [e]
        rfl
      rw [e1] at k
      exact iteF (k _ s1)
    | true =>
      have e1 : wholeT z = (decide (V.int (z.length : Int) = V.int 1) || !decide (V.str (headS z) = V.str "0")) := by
        unfold wholeT
        rw [e]
        rfl
      rw [e1] at k
      refine iteT ?_
      refine ⟨_, rfl, z, rfl, (by rw [sizeLine_eq]; omega), rfl, ?_⟩
      refine ⟨_, rfl, ?_⟩
      cases el : decide (V.int (z.length : Int) = V.int 1) with
      | true =>
        have k1 := k _ s1
        rw [el, Bool.true_or] at k1
        exact iteT k1
      | false =>
        have k1 := k _ s1
        rw [el, Bool.false_or] at k1
        refine iteF ?_
        have ne : 0 < z.length := by
          have q := (Bool.and_eq_true_iff.mp e).1
          exact of_decide_eq_true q
        have ha : ∃ c r, z.cps.toList = c :: r := by
          cases q : z.cps.toList with
          | nil =>
            have : z.length = 0 := by
              show z.cps.size = 0
              rw [← Array.length_toList, q]
              rfl
            omega
          | cons c r => exact ⟨c, r, rfl⟩
        obtain ⟨c, r, ec⟩ := ha
        have eh : headS z = ⟨#[c]⟩ := by
          unfold headS
          rw [ec]
        rw [eh] at k1
        exact ⟨_, rfl, z, 0, c, rfl, rfl, (by rw [sizeLine_eq]; omega), by rw [ec]; exact atI_nat (j := 0) rfl, rfl, k1⟩
end
def tokOk (z : Str) : Bool := wholeT z && decide ((z.length : Int) ≤ 4)
def tokV (z : Str) : Int := (intText? z).getD 0
theorem sign_digit {c : Nat} (h : isDig ⟨#[c]⟩ = true) : 48 ≤ c ∧ c ≤ 57 := by
  unfold isDig at h
  obtain ⟨h1, h2⟩ := Bool.and_eq_true_iff.mp h
  have e1 := of_decide_eq_false (Bool.not_eq_true' _ |>.mp h1)
  have e2 := of_decide_eq_false (Bool.not_eq_true' _ |>.mp h2)
  have z1 : ("0" : Str).cps.toList = [48] := by decide +kernel
  have z2 : ("9" : Str).cps.toList = [57] := by decide +kernel
  rw [z1] at e1
  rw [z2] at e2
  constructor
  · refine Nat.le_of_not_lt fun lt => e1 ?_
    exact List.Lex.rel lt
  · refine Nat.le_of_not_lt fun lt => e2 ?_
    exact List.Lex.rel lt
theorem tok_int {z : Str} (h : tokOk z = true) : intText? z = some (tokV z) ∧ z.length ≤ 4 := by
  unfold tokOk at h
  obtain ⟨h1, h2⟩ := Bool.and_eq_true_iff.mp h
  have hl : z.length ≤ 4 := by
    have := of_decide_eq_true h2
    omega
  unfold wholeT at h1
  obtain ⟨h3, _⟩ := Bool.and_eq_true_iff.mp h1
  unfold areDig at h3
  obtain ⟨h4, h5⟩ := Bool.and_eq_true_iff.mp h3
  have h4' : 0 < z.length := of_decide_eq_true h4
  have ne : z.cps.toList ≠ [] := fun q => by
    have : z.length = 0 := by
      show z.cps.size = 0
      rw [← Array.length_toList, q]
      rfl
    omega
  have all : PySem.NumText.AllDigits z.cps.toList := fun c hc => by
    have q := List.all_eq_true.mp h5 ⟨#[c]⟩ (List.mem_map.mpr ⟨c, hc, rfl⟩)
    exact sign_digit q
  have e := PySem.intText_digits all ne (by omega)
  refine ⟨?_, hl⟩
  unfold tokV
  rw [e]
  rfl
theorem tok_val {z : Str} (h : tokOk z = true) : ∃ d : Nat, tokV z = (d : Int) := by
  unfold tokOk at h
  obtain ⟨h1, h2⟩ := Bool.and_eq_true_iff.mp h
  have hl : z.length ≤ 4 := by
    have := of_decide_eq_true h2
    omega
  unfold wholeT at h1
  obtain ⟨h3, _⟩ := Bool.and_eq_true_iff.mp h1
  unfold areDig at h3
  obtain ⟨h4, h5⟩ := Bool.and_eq_true_iff.mp h3
  have h4' : 0 < z.length := of_decide_eq_true h4
  have ne : z.cps.toList ≠ [] := fun q => by
    have : z.length = 0 := by
      show z.cps.size = 0
      rw [← Array.length_toList, q]
      rfl
    omega
  have all : PySem.NumText.AllDigits z.cps.toList := fun c hc => by
    have q := List.all_eq_true.mp h5 ⟨#[c]⟩ (List.mem_map.mpr ⟨c, hc, rfl⟩)
    exact sign_digit q
  have e := PySem.intText_digits all ne (by omega)
  refine ⟨PySem.NumText.digitsVal z.cps.toList, ?_⟩
  unfold tokV
  rw [e]
  rfl
def spIsField (K : PySem.W.Frag) : Sp := fun vs H Q _ => ∃ (i : Int) (p : Addr) (f : Fd), vs = [.int i, .ref p] ∧ SqT K H p (fdV f) ∧ ∀ H', Same H H' → Q (.bl (okF f i)) H'
/-- a word that a field lets stand -/
def told (f : Fd) (z : Str) : Bool := tokOk z && okF f (tokV z)
def spIsTold (K : PySem.W.Frag) : Sp := fun vs H Q _ => ∃ (z : Str) (p : Addr) (f : Fd), vs = [.str z, .ref p] ∧ z.length ≤ 100000 ∧ SqT K H p (fdV f) ∧ ∀ H', Same H H' → Q (.bl (told f z)) H'
section
variable {P : Program} {w : World} {K : PySem.W.Frag} {mg : Str → Option Value} {base : Heap}
abbrev nIf : List Str := ["value", "field", "low", "high", "other"]
theorem sc_is_field : FnScope nIf ["value", "field"] (defScope s_is_field) := ⟨rfl, rfl, rfl, by decide +kernel, rfl, by decide +kernel, by decide +kernel⟩
theorem ok_is_field {f : Addr} {fd : FuncData} (F : Fun K "is_field" "is_field" s_is_field f fd) (T : Txt K mg) : FnOk P w K mg base CX0 1 f fd ["value", "field"] (spIsField K) := by
  refine F.ok sc_is_field (fun vs H Q E h => ?_) (fun cdv A outer s H vs Q E hr h => ?_)
  · obtain ⟨i, p, fl, rfl, _⟩ := h
    rfl
  obtain ⟨z, p, ⟨lo, hi, ot⟩, rfl, hp, k⟩ := h
  have nd := sc_is_field.nd
  refine ⟨_, pss_cons (ps_asg (pv 1) (pg_tup (by rfl) (pgs_cons (pg_name (i := 2) nd rfl (Or.inl rfl)) (pgs_cons (pg_name (i := 3) nd rfl (Or.inl rfl)) (pgs_cons (pg_name (i := 4) nd rfl (Or.inl rfl)) pgs_nil)))))
      (pss_one (ps_ret (pe_and (pe_callB call_isi (by rfl) T.nIsi (by decide +kernel) (pa_cons (pv 0) (pa_cons (pe_bltn (v := .ty "int") (by rfl) T.nInt (by decide +kernel) rfl) pa_nil))) (pe_and (pe_not (pe_callB call_isi (by rfl) T.nIsi (by decide +kernel) (pa_cons (pv 0) (pa_cons (pe_bltn (v := .ty "bool") (by rfl) T.nBool (by decide +kernel) rfl) pa_nil)))) (pe_and (pe_chain op_le op_le (pv 2) (pv 0) (pv 3)) (pe_one (pe_cmpR op_ne (pv 0) (pv 4) (nomark _)))))))), ?_⟩
  have kk := k H (Same.refl H)
  have e0 : okF (lo, hi, ot) z = (decide (lo ≤ z) && decide (z ≤ hi) && !decide (ot = some z)) := rfl
  refine ⟨_, rfl, p, _, rfl, hp, rfl, _, _, rfl, _, _, rfl, _, _, rfl, rfl, ?_⟩
  refine ⟨_, rfl, _, _, _, _, _, rfl, .ty "int", .base (.int z), kit_ty (r := true) (by decide +kernel), _, rfl, iteT ?_⟩
  refine ⟨_, rfl, _, _, _, _, _, rfl, .ty "bool", .base (.int z), kit_ty (r := false) (by decide +kernel), _, rfl, _, rfl, iteT ?_⟩
  refine ⟨_, rfl, _, rfl, _, _, rfl, rfl, _, rfl, ?_⟩
  refine ite2 (fun h1 => ?_) (fun h1 => ?_)
  · refine ⟨_, rfl, _, _, rfl, rfl, _, rfl, ?_⟩
    refine ite2 (fun h2 => ?_) (fun h2 => ?_)
    · refine ⟨_, rfl, _, rfl, ?_⟩
      have sc : scal (V.int z) (optV ot) = true := by cases ot <;> rfl
      have eo : decide (V.int z = optV ot) = decide (ot = some z) := by
        cases ot with
        | none => rfl
        | some o =>
          show decide (V.int z = V.int o) = _
          by_cases e : o = z
          · subst e
            rw [decide_eq_true rfl, decide_eq_true rfl]
          · rw [decide_eq_false (fun y => e (Option.some.inj y)), decide_eq_false (fun y => e (V.int.inj y).symm)]
      refine ⟨sc, ?_⟩
      rw [eo]
      rw [e0, h1, h2] at kk
      exact kk
    · rw [e0, Bool.eq_false_iff.mpr h2, Bool.and_false] at kk
      exact kk
  · refine ⟨_, rfl, ?_⟩
    rw [e0, Bool.eq_false_iff.mpr h1] at kk
    exact iteF kk
end
end OH
end
section
set_option Elab.async false
set_option linter.all false
set_option maxRecDepth 100000
set_option maxHeartbeats 8000000
/-! A line is read. -/
namespace OH
open PySem PySem.Spec PyProof.Rows L2
/-- the column of the first wrong word, or the numbers -/
def goW : List Fd → List Str → Int → List Int → Int ⊕ List Int
  | [], [], _, acc => .inr acc
  | _ :: _, [], c, _ => .inl (c - 1)
  | [], _ :: _, c, _ => .inl c
  | f :: fs, w :: ws, c, acc => if told f w = true then goW fs ws (c + ((w.length : Int) + 1)) (acc ++ [tokV w]) else .inl c
def lineP (w : Wk) (z : Str) (ws : List Str) : Int ⊕ List Int := match fld w z with
  | none => .inl 1
  | some fs => goW fs ws ((z.length : Int) + 2) []
def colW : Nat → List Str → Nat
  | c, [] => c
  | c, w :: ws => colW (c + (w.length + 1)) ws
theorem colW_le (c : Nat) : ∀ (ws : List Str), c ≤ colW c ws
  | [] => Nat.le_refl _
  | w :: ws => Nat.le_trans (by omega) (colW_le (c + (w.length + 1)) ws)
theorem colW_app (c : Nat) (xs ys : List Str) : colW c (xs ++ ys) = colW (colW c xs) ys := by
  induction xs generalizing c with
  | nil => rfl
  | cons x xs ih => exact ih _
theorem colW_take (c : Nat) (ws : List Str) (i : Nat) : colW c (ws.take i) ≤ colW c ws := by
  have e := colW_app c (ws.take i) (ws.drop i)
  rw [List.take_append_drop] at e
  rw [e]
  exact colW_le _ _
theorem fld_le {w : Wk} {x : Str} {fs : List Fd} (h : fld w x = some fs) : fs.length ≤ 4 := by
  unfold fld at h
  repeat' split at h
  all_goals first
    | (cases h; done)
    | (cases h; exact Nat.le_of_ble_eq_true rfl)
theorem cut_tail (v : V) (rest : List V) : cutV (v :: rest) (some 1) none = rest := by
  unfold cutV
  have e1 : HT.sIx (v :: rest).length 0 (some 1) = 1 := by
    show HT.sIx (rest.length + 1) 0 (some 1) = 1
    simp [HT.sIx]
  have e2 : HT.sIx (v :: rest).length (v :: rest).length none = (v :: rest).length := by
    simp [HT.sIx]
  rw [e1, e2]
  simp
theorem told_tok {f : Fd} {z : Str} (h : told f z = true) : tokOk z = true := (Bool.and_eq_true_iff.mp h).1
def spCrTold (K : PySem.W.Frag) (CW C : Addr) : Sp := fun vs H Q E => ∃ (p d al l : Addr) (w : Wk) (n : Nat) (z : Str) (ws : List Str), vs = [.ref p, .int (n : Int), .ref l] ∧ WkAt CW H p d al w ∧ w.asks.length ≤ 1000000 ∧
  H l = some (.lst ((z :: ws).map V.str)) ∧ ws.length ≤ 200000 ∧ n ≤ 200000 ∧ (∀ x ∈ z :: ws, x.length ≤ 100000) ∧ colW (z.length + 2) ws ≤ 300000 ∧
  (∀ c, lineP w z ws = .inl c → ∀ e H', Same H H' → H' e = none → E (.ref C) (some e) (upd H' e (.xd [("column", .int c), ("line", .int (n : Int))]))) ∧
  ∀ is, lineP w z ws = .inr is → ∀ t H', Same H H' → H t = none → H' t = some (.tup (.str z :: is.map V.int)) → Q (.ref t) H'
section
variable {P : Program} {w : World} {K : PySem.W.Frag} {mg : Str → Option Value} {base : Heap} {CW : Addr}
theorem sc_is_told : FnScope ["word", "field"] ["word", "field"] (defScope s_is_told) := ⟨rfl, rfl, rfl, by decide +kernel, rfl, by decide +kernel, by decide +kernel⟩
theorem ok_is_told {f : Addr} {fd : FuncData} (F : Fun K "is_told" "is_told" s_is_told f fd) (T : Txt K mg) (G4 : ∃ t, mg "MOST_FIGURES" = some (.int 4 t))
    (DW : DefF P w K mg base CX0 4 "is_written_whole" ["text"] spWritten) (DF : DefF P w K mg base CX0 4 "is_field" ["value", "field"] (spIsField K)) : FnOk P w K mg base CX0 5 f fd ["word", "field"] (spIsTold K) := by
  refine F.ok sc_is_told (fun vs H Q E h => ?_) (fun cdv A outer s H vs Q E hr h => ?_)
  · obtain ⟨z, p, fl, rfl, _⟩ := h
    rfl
  obtain ⟨z, p, fl, rfl, hz, hp, k⟩ := h
  have nd := sc_is_told.nd
  obtain ⟨t4, g4⟩ := G4
  refine ⟨_, pss_one (ps_ret (pe_and (pe_cD DW hr rfl pass0 (pa_cons (pv 0) pa_nil)) (pe_and (pe_cmpR op_le (pe_callB call_len_str (by rfl) T.nLen (by decide +kernel) (pa_cons (pv 0) pa_nil)) (pe_glob (v := .int 4) rfl g4 ⟨t4, rfl⟩) (nomark _)) (pe_one (pe_cD DF hr rfl pass0 (pa_cons (pe_callTy call_int_str (by rfl) T.nInt (by decide +kernel) (pa_cons (pv 0) pa_nil)) (pa_cons (pv 1) pa_nil))))))), ?_⟩
  refine ⟨_, rfl, z, rfl, hz, fun H1 s1 => ?_⟩
  refine ⟨_, rfl, ?_⟩
  have e0 : told fl z = (wholeT z && decide ((z.length : Int) ≤ 4) && okF fl (tokV z)) := rfl
  cases e : wholeT z with
  | false =>
    have kk := k _ s1
    rw [e0, e] at kk
    exact iteF kk
  | true =>
    refine iteT ?_
    refine ⟨_, rfl, z, rfl, (by rw [sizeLine_eq]; omega), _, _, rfl, rfl, _, rfl, ?_⟩
    refine ite2 (fun h4 => ?_) (fun h4 => ?_)
    · have ht : tokOk z = true := by
        unfold tokOk
        rw [e]
        exact h4
      obtain ⟨ti, tl⟩ := tok_int ht
      refine ⟨_, rfl, z, _, rfl, ti, by omega, _, rfl, _, p, fl, rfl, hp.sm s1, fun H2 s2 => ?_⟩
      have kk := k _ (s1.trans s2)
      rw [e0, e, h4] at kk
      exact kk
    · have kk := k _ s1
      rw [e0, e, Bool.eq_false_iff.mpr h4] at kk
      exact kk
abbrev nCt : List Str := ["walk", "line", "words", "fields", "items", "column", "at", "word"]
theorem sc_crossing_told : FnScope nCt ["walk", "line", "words"] (defScope s_crossing_told) := ⟨rfl, rfl, rfl, by decide +kernel, rfl, by decide +kernel, by decide +kernel⟩
theorem ok_crossing_told {f fI C : Addr} {fd fdI : FuncData} (F : Fun K "crossing_told" "crossing_told" s_crossing_told f fd) (T : Txt K mg) (TW : TxW K CW) (nEnum : mg "enumerate" = none)
    (TE : ErrF P K mg "BadText" "line" C) (iC : PySem.W.findIn K (.ref C) "__init__" = some (some (.ref fI))) (tI : PySem.W.typeIn K (.ref fI) = some (.type "function"))
    (FI : FnOk P w K mg base CX0 1 fI fdI ["self", "line", "column"] (spErr2 C "line" "column")) (bI : Binds K fdI ["self", "line", "column"] [])
    (DFs : MetF P w K mg base CX0 5 CW "fields" ["self", "word"] (spFields K CW)) (DT : DefF P w K mg base CX0 5 "is_told" ["word", "field"] (spIsTold K)) :
    FnOk P w K mg base (L2.CX P w) 6 f fd ["walk", "line", "words"] (spCrTold K CW C) := by
  refine F.okX sc_crossing_told (fun vs H Q E h => ?_) (fun cdv A outer s H vs Q E hr h => ?_)
  · obtain ⟨p, d, al, l, w, n, z, ws, rfl, _⟩ := h
    rfl
  obtain ⟨p, d, al, l, w, n, z, ws, rfl, W, hl, hw, lw, hn, hz, hcol, kE, kQ⟩ := h
  have nd := sc_crossing_told.nd
  have hr2 : Room 2 _ := hr.mono (by decide)
  have fI' : ∀ k : Nat, k ≤ 300000 → FmtV (.int (k : Int)) := fun k hk => ⟨toString (k : Int), .int _ (by
      have : (k : Int).natAbs = k := Int.natAbs_natCast k
      rw [this]
      have h2 : k.log2 ≤ k := Nat.log2_le_self k
      have h3 : k < 2 ^ 19 := by omega
      by_cases hk0 : k = 0
      · rw [hk0]
        decide
      · have := (Nat.log2_lt hk0).mpr h3
        omega), Nat.le_trans (PyProof.Rows.toString_length_le (k := 10) (Int.natCast_nonneg k) (by decide) (by omega)) (by omega)⟩
  refine ⟨_, pss_cons (ps_set (i := 3) nd rfl (Or.inl rfl) (pe_mD (pv 0) TW.cl DFs (hr.mono (by decide)) pass0 (pa_cons (pe_ix ix_list (pv 2) pe_int (fun _ _ => rfl)) pa_nil)))
      (pss_cons (ps_if (pt_cmpR op_isN (pv 3) pe_non (nomark _)) (pss_one (ps_raise rfl (takes_of rfl rfl rfl rfl) (pmk_err2 TE iC tI FI hr2 bI (by rfl) (pa_cons (pv 1) (pa_cons pe_int pa_nil))))) pss_nil)
      (pss_cons (ps_set (i := 4) nd rfl (Or.inl rfl) (pe_lst (pa_cons (pe_ix ix_list (pv 2) pe_int (fun _ _ => rfl)) pa_nil)))
      (pss_cons (ps_set (i := 5) nd rfl (Or.inl rfl) (pe_op op_add (pe_callB call_len_str (by rfl) T.nLen (by decide +kernel) (pa_cons (pe_ix ix_list (pv 2) pe_int (fun _ _ => rfl)) pa_nil)) pe_int))
      (pss_cons (ps_for (passes_of rfl) rfl (pi_enum (by rfl) nEnum (pa_cons (pe_slice sl_list (pv 2) (po_some pe_int) po_none) pa_nil)) (pg_tup (by rfl) (pgs_cons (pg_name (i := 6) nd rfl (Or.inl rfl)) (pgs_cons (pg_name (i := 7) nd rfl (Or.inl rfl)) pgs_nil)))
        (pss_cons (ps_if (PW.pt (pw_or (pt_cmpR op_ge (pv 6) (pe_callB call_len (by rfl) T.nLen (by decide +kernel) (pa_cons (pv 3) pa_nil)) (nomark _)) (pw_or1 (pt_not (pt_val (pe_cD DT (hr.mono (by decide)) rfl pass0 (pa_cons (pv 7) (pa_cons (pe_ix ix_list (pv 3) (pv 6) (fun _ _ => rfl)) pa_nil)))))))) (pss_one (ps_raise rfl (takes_of rfl rfl rfl rfl) (pmk_err2 TE iC tI FI hr2 bI (by rfl) (pa_cons (pv 1) (pa_cons (pv 5) pa_nil))))) pss_nil)
      (pss_cons (ps_expr (pe_bm PySem.F.plainAttrs_list PySem.F.slot_list_append PySem.F.type_list_append mt_append (pv 4) (pa_cons (pe_callTy call_int_str (by rfl) T.nInt (by decide +kernel) (pa_cons (pv 7) pa_nil)) pa_nil)))
      (pss_one (ps_aug (i := 5) nd rfl (Or.inl rfl) (pe_op op_add (pe_callB call_len_str (by rfl) T.nLen (by decide +kernel) (pa_cons (pv 7) pa_nil)) pe_int) ip_add)))))
      (pss_cons (ps_if (pt_cmpR op_le (pe_callB call_len (by rfl) T.nLen (by decide +kernel) (pa_cons (pv 4) pa_nil)) (pe_callB call_len (by rfl) T.nLen (by decide +kernel) (pa_cons (pv 3) pa_nil)) (nomark _)) (pss_one (ps_raise rfl (takes_of rfl rfl rfl rfl) (pmk_err2 TE iC tI FI hr2 bI (by rfl) (pa_cons (pv 1) (pa_cons (pe_op op_sub (pv 5) pe_int) pa_nil))))) pss_nil)
      (pss_one (ps_ret (pe_callTy call_tuple_of (by rfl) T.nTuple (by decide +kernel) (pa_cons (pv 4) pa_nil))))))))), ?_⟩
  refine ⟨_, rfl, p, d, _, rfl, W.hp, rfl, _, rfl, l, _, 0, _, rfl, rfl, SqL.of hw, (atI_nat (j := 0) rfl), ?_⟩
  refine ⟨p, d, al, w, z, rfl, W, hl, fun hf H1 s1 => ?_, fun fs hf fl ps H1 s1 nfl hfl hq => ?_⟩
  · refine ⟨_, rfl, rfl, _, rfl, iteT ?_⟩
    have e : lineP w z ws = .inl 1 := by
      unfold lineP
      rw [hf]
    refine ⟨_, rfl, _, _, rfl, fI' n (by omega), fI' 1 (by decide), fun dd nd => kE 1 e dd _ s1 nd⟩
  have eL : lineP w z ws = goW fs ws ((z.length : Int) + 2) [] := by
    unfold lineP
    rw [hf]
  rw [eL] at kE kQ
  have hfl4 := fld_le hf
  have hlp : ps.length = fs.length := hq.len
  have hz0 : z.length ≤ 100000 := hz z (List.mem_cons_self ..)
  have hw1 := s1 _ _ hw
  refine ⟨_, rfl, rfl, _, rfl, iteF ?_⟩
  -- items
  refine ⟨_, rfl, l, _, 0, _, rfl, rfl, SqL.of hw1, (atI_nat (j := 0) rfl), ?_⟩
  refine ⟨by show 1 ≤ sizeLine; decide, fun it nit => ?_⟩
  have s2 := sadd (o := .lst [.str z]) s1 nit
  have hit : upd H1 it (.lst [.str z]) it = some (.lst [.str z]) := upd_same
  have hfl2 := (upd_ne (o := .lst [.str z]) (ne_of_none hfl nit)).trans hfl
  have hq2 := hq.same (sadd (o := .lst [.str z]) (Same.refl H1) nit)
  have hw2 := s2 _ _ hw
  have itH := s1.none nit
  generalize upd H1 it (.lst [.str z]) = H2 at s2 hit hfl2 hq2 hw2 ⊢
  -- the words
  have hw2L : SqL K H2 l ((z :: ws).map V.str) := SqL.of hw2
  refine ⟨_, rfl, l, _, 0, _, rfl, rfl, hw2L, (atI_nat (j := 0) rfl), z, rfl, (by rw [sizeLine_eq]; omega), _, _, rfl, rfl, ?_⟩
  refine ⟨_, rfl, _, rfl, l, _, rfl, hw2L, fun sl nsl => ?_⟩
  have ec : cutV (List.map V.str (z :: ws)) (some 1) none = ws.map V.str := cut_tail _ _
  rw [ec]
  have s3 := sadd (o := .lst (ws.map V.str)) s2 nsl
  have hsl : upd H2 sl (.lst (ws.map V.str)) sl = some (.lst (ws.map V.str)) := upd_same
  have hit3 := (upd_ne (o := .lst (ws.map V.str)) (ne_of_none hit nsl)).trans hit
  have hfl3 := (upd_ne (o := .lst (ws.map V.str)) (ne_of_none hfl2 nsl)).trans hfl2
  have hq3 := hq2.same (sadd (o := .lst (ws.map V.str)) (Same.refl H2) nsl)
  have nsi : sl ≠ it := (ne_of_none hit nsl).symm
  have nfi : fl ≠ it := (ne_of_none hfl nit)
  generalize upd H2 sl (.lst (ws.map V.str)) = H3 at s3 hsl hit3 hfl3 hq3 ⊢
  clear hit hfl2 hq2 hw2 hw2L s2 nsl
  have wk := walk_enum (K := K) (a := sl) (xs := ws.map V.str)
  rw [List.length_map] at wk
  refine ⟨sl, _, rfl, SqL.of hsl, ?_⟩
  refine for_it wk (fun i σ H' => ∃ (acc : List Int) (v6 v7 : Option V), σ = [some (.ref p), some (.int (n : Int)), some (.ref l), some (.ref fl), some (.ref it), some (.int (colW (z.length + 2) (ws.take i) : Nat)), v6, v7] ∧ Same H H' ∧ H' sl = some (.lst (ws.map V.str)) ∧ H' fl = some (.lst (ps.map V.ref)) ∧
      AllQ K H' fdV ps fs ∧ H' it = some (.lst (.str z :: acc.map V.int)) ∧ acc.length = i ∧ i ≤ fs.length ∧ goW (fs.drop i) (ws.drop i) (colW (z.length + 2) (ws.take i) : Nat) acc = goW fs ws ((z.length : Int) + 2) [])
    ⟨[], none, none, rfl, s3, hsl, hfl3, hq3, hit3, rfl, Nat.zero_le _, rfl⟩ (fun i σ H' _ h => by obtain ⟨_, _, _, _, _, h, _⟩ := h; exact SqL.of h) ?turn ?done
  case turn =>
    rintro i x σ Ha _ hi ⟨acc, v6, v7, rfl, sa, hsla, hfla, hqa, hita, la, li, hg⟩ ⟨T', x1, y1, rfl, nT, rfl, hx1, hy1⟩
    cases hx1
    replace hy1 : (List.map V.str ws)[i]? = some y1 := hy1
    rw [List.getElem?_map] at hy1
    obtain ⟨u, hu, rfl⟩ := Option.map_eq_some_iff.mp hy1
    have lu : u.length ≤ 100000 := hz u (List.mem_cons_of_mem _ (List.mem_of_getElem? hu))
    have hd : ws.drop i = u :: ws.drop (i + 1) := by
      obtain ⟨h1, h2⟩ := List.getElem?_eq_some_iff.mp hu
      rw [← h2]
      exact List.drop_eq_getElem_cons h1
    have ct := colW_take (z.length + 2) ws i
    have ct1 : colW (z.length + 2) (ws.take (i + 1)) = colW (z.length + 2) (ws.take i) + (u.length + 1) := by
      rw [List.take_add_one, hu, colW_app]
      rfl
    rw [hd] at hg
    generalize colW (z.length + 2) (ws.take i) = c at hg ct ct1 ⊢
    have sb := sadd (o := .tup [.int (i : Nat), .str u]) sa nT
    have hT : upd Ha T' (.tup [.int (i : Nat), .str u]) T' = some (.tup [.int (i : Nat), .str u]) := upd_same
    have hslb := (upd_ne (o := .tup [.int (i : Nat), .str u]) (ne_of_none hsla nT)).trans hsla
    have hflb := (upd_ne (o := .tup [.int (i : Nat), .str u]) (ne_of_none hfla nT)).trans hfla
    have hitb := (upd_ne (o := .tup [.int (i : Nat), .str u]) (ne_of_none hita nT)).trans hita
    have hqb := hqa.same (sadd (o := .tup [.int (i : Nat), .str u]) (Same.refl Ha) nT)
    generalize upd Ha T' (.tup [.int (i : Nat), .str u]) = Hb at sb hT hslb hflb hitb hqb ⊢
    clear hsla hfla hita hqa sa nT
    refine ⟨T', _, rfl, SqT.of hT, rfl, _, _, rfl, _, _, rfl, rfl, ?_⟩
    refine ⟨_, rfl, _, rfl, _, _, rfl, .inl ⟨_, SqL.of hflb, rfl⟩, _, _, rfl, rfl, _, rfl, ?_⟩
    have bad : (c : Int) = c ∧ goW fs ws ((z.length : Int) + 2) [] = .inl (c : Int) → ∀ Hx, Same H Hx → ∀ dd, Hx dd = none → E (Value.ref C) (some dd) (upd Hx dd (.xd [("column", .int (c : Int)), ("line", .int (n : Int))])) := fun e Hx sx dd nd => kE _ e.2 dd Hx sx nd
    refine ite2 (fun h => ?_) (fun h => ?_)
    · have h' : ((ps.map V.ref).length : Int) ≤ (i : Int) := by simpa using h
      rw [List.length_map, hlp] at h'
      rw [List.drop_eq_nil_of_le (by omega)] at hg
      refine iteT ⟨_, rfl, _, rfl, _, _, rfl, fI' n (by omega), fI' c (by omega), fun dd nd => bad ⟨rfl, hg.symm.trans rfl⟩ _ sb dd nd⟩
    · have h' : ¬ ((ps.map V.ref).length : Int) ≤ (i : Int) := by simpa using h
      rw [List.length_map, hlp] at h'
      have hi2 : i < fs.length := by omega
      obtain ⟨fp, hfp⟩ : ∃ fp, ps[i]? = some fp := ⟨_, List.getElem?_eq_getElem (by rw [hlp]; exact hi2)⟩
      obtain ⟨fd', hfd, hfq⟩ := hqb.get hfp
      have hdf : fs.drop i = fd' :: fs.drop (i + 1) := by
        obtain ⟨q1, q2⟩ := List.getElem?_eq_some_iff.mp hfd
        rw [← q2]
        exact List.drop_eq_getElem_cons q1
      rw [hdf] at hg
      have eg : goW (fd' :: fs.drop (i + 1)) (u :: ws.drop (i + 1)) (c : Int) acc = if told fd' u = true then goW (fs.drop (i + 1)) (ws.drop (i + 1)) ((c : Int) + ((u.length : Int) + 1)) (acc ++ [tokV u]) else .inl (c : Int) := rfl
      rw [eg] at hg
      refine ⟨_, rfl, _, rfl, _, rfl, fl, _, (i : Int), _, rfl, rfl, SqL.of hflb, atI_nat (j := i) (v := .ref fp) (by rw [List.getElem?_map, hfp]; rfl), u, fp, fd', rfl, lu, hfq, fun Hc sc => ⟨_, rfl, ?_⟩⟩
      have sbc := sb.trans sc
      have hslc := sc _ _ hslb
      have hflc := sc _ _ hflb
      have hitc := sc _ _ hitb
      have hqc := hqb.same sc
      clear hslb hflb hitb hqb
      cases et : told fd' u with
      | false =>
        rw [et, if_neg Bool.false_ne_true] at hg
        exact iteT ⟨_, rfl, _, rfl, _, _, rfl, fI' n (by omega), fI' c (by omega), fun dd nd => bad ⟨rfl, hg.symm⟩ _ sbc dd nd⟩
      | true =>
        rw [et, if_pos rfl] at hg
        refine iteF ?_
        obtain ⟨ti, tl⟩ := tok_int (told_tok et)
        refine ⟨_, rfl, .inl ⟨rfl, _, SqL.of hitc⟩, _, rfl, u, _, rfl, ti, by omega, it, _, _, rfl, rfl, hitc, (by rw [List.length_cons, List.length_map, sizeLine_eq]; omega), ?_⟩
        have sd := sout (o := .lst ((.str z :: acc.map V.int) ++ [.int (tokV u)])) sbc itH
        have hsld := (upd_ne (o := .lst ((.str z :: acc.map V.int) ++ [.int (tokV u)])) nsi).trans hslc
        have hfld := (upd_ne (o := .lst ((.str z :: acc.map V.int) ++ [.int (tokV u)])) nfi).trans hflc
        have hitd : upd Hc it (.lst ((.str z :: acc.map V.int) ++ [.int (tokV u)])) it = some (.lst (.str z :: (acc ++ [tokV u]).map V.int)) := by
          rw [upd_same, List.map_append]
          rfl
        have hqd : AllQ K (upd Hc it (.lst ((.str z :: acc.map V.int) ++ [.int (tokV u)]))) fdV ps fs := hqc.mono fun q ys e => e.upl hitc
        generalize upd Hc it (.lst ((.str z :: acc.map V.int) ++ [.int (tokV u)])) = Hd at sd hsld hfld hitd hqd ⊢
        refine ⟨_, rfl, _, rfl, u, rfl, (by rw [sizeLine_eq]; omega), _, _, rfl, rfl, _, _, rfl, rfl, ?_⟩
        refine ⟨acc ++ [tokV u], some (.int (i : Int)), some (.str u), ?_, sd, hsld, hfld, hqd, hitd, by rw [List.length_append, la]; rfl, hi2, ?_⟩
        · rw [ct1]
          rfl
        · rw [ct1]
          exact hg
  case done =>
  rintro σ Hz ⟨acc, v6, v7, rfl, sz, hslz, hflz, hqz, hitz, lz, liz, hg⟩
  have lz' : acc.length = ws.length := by simpa using lz
  have liz' : ws.length ≤ fs.length := by simpa using liz
  have ew : (List.map V.str ws).length = ws.length := List.length_map _
  have et : ws.take ws.length = ws := List.take_length
  have cl := colW_le (z.length + 2) ws
  simp only [ew, et, List.drop_length] at hg ⊢
  generalize colW (z.length + 2) ws = c at hg cl hcol ⊢
  refine ⟨_, rfl, _, _, rfl, .inl ⟨_, SqL.of hitz, rfl⟩, _, rfl, _, _, rfl, .inl ⟨_, SqL.of hflz, rfl⟩, _, _, rfl, rfl, _, rfl, ?_⟩
  have el : ((V.str z :: acc.map V.int).length : Int) = (ws.length : Int) + 1 := by
    rw [List.length_cons, List.length_map, lz']
    rfl
  refine ite2 (fun h => ?_) (fun h => ?_)
  · have h' : ((V.str z :: acc.map V.int).length : Int) ≤ ((ps.map V.ref).length : Int) := by simpa using h
    rw [el, List.length_map, hlp] at h'
    have hlt : ws.length < fs.length := by omega
    have hdf : fs.drop ws.length = fs[ws.length] :: fs.drop (ws.length + 1) := List.drop_eq_getElem_cons hlt
    rw [hdf] at hg
    have eg : goW fs ws ((z.length : Int) + 2) [] = .inl ((c : Int) - 1) := hg.symm
    have ec1 : ((c : Int) - 1) = ((c - 1 : Nat) : Int) := by omega
    refine ⟨_, rfl, _, rfl, _, _, rfl, rfl, _, _, rfl, fI' n (by omega), (by show FmtV (.int ((c : Int) - 1)); rw [ec1]; exact fI' (c - 1) (by omega)), fun dd nd => kE _ eg dd _ sz nd⟩
  · have h' : ¬ ((V.str z :: acc.map V.int).length : Int) ≤ ((ps.map V.ref).length : Int) := by simpa using h
    rw [el, List.length_map, hlp] at h'
    rw [List.drop_eq_nil_of_le (by omega)] at hg
    have eg : goW fs ws ((z.length : Int) + 2) [] = .inr acc := hg.symm
    refine ⟨_, rfl, it, _, rfl, .inl ⟨SqL.of hitz, fun t nt => ?_⟩⟩
    exact kQ acc eg t _ (sadd sz nt) (sz.none nt) upd_same
end
end OH
end
section
set_option Elab.async false
set_option linter.all false
set_option maxRecDepth 100000
set_option maxHeartbeats 8000000
/-! A text is read. -/
namespace OH
open PySem PySem.Spec PyProof.Rows L2
theorem joinL_bounds {c : Nat} : ∀ {ps : List (List Nat)}, ps.length ≤ (TL.joinL [c] ps).length + 1 ∧ ∀ p ∈ ps, p.length ≤ (TL.joinL [c] ps).length
  | [] => ⟨Nat.zero_le _, fun p hp => absurd hp List.not_mem_nil⟩
  | [p] => ⟨by simp, fun q hq => by rw [List.mem_singleton] at hq; rw [hq]; exact Nat.le_refl _⟩
  | p :: q :: r => by
    obtain ⟨h1, h2⟩ := joinL_bounds (c := c) (ps := q :: r)
    have e : (TL.joinL [c] (p :: q :: r)).length = p.length + (1 + (TL.joinL [c] (q :: r)).length) := by
      show (p ++ ([c] ++ TL.joinL [c] (q :: r))).length = _
      rw [List.length_append, List.length_append]
      rfl
    rw [e]
    refine ⟨by rw [List.length_cons]; omega, fun z hz => ?_⟩
    rcases List.mem_cons.mp hz with rfl | hz
    · omega
    · have := h2 z hz
      omega
theorem split_bounds {y : Str} {c : Nat} (hy : TL.tl y = [c]) (x : Str) : (Txt.split x y).length ≤ x.length + 1 ∧ ∀ p ∈ Txt.split x y, p.length ≤ x.length := by
  have e : TL.joinL [c] ((Txt.split x y).map TL.tl) = TL.tl x := by
    rw [← hy, ← TL.tl_join, StrLaws.join_split]
  obtain ⟨h1, h2⟩ := joinL_bounds (c := c) (ps := (Txt.split x y).map TL.tl)
  rw [e, List.length_map] at h1
  rw [e] at h2
  have lx := TL.len_tl x
  refine ⟨by omega, fun p hp => ?_⟩
  have := h2 _ (List.mem_map.mpr ⟨p, hp, rfl⟩)
  have lp := TL.len_tl p
  omega
theorem split_ne {x y : Str} (h : decide (V.str x = V.str "") = false) : Txt.split x y ≠ [] := fun e => by
  have q := StrLaws.join_split x y
  rw [e] at q
  have q' : ("" : Str) = x := q
  rw [q'] at h
  rw [decide_eq_true rfl] at h
  cases h
def headL (l : Str) : Str := (Txt.split l " ").headD ""
def restL (l : Str) : List Str := (Txt.split l " ").tail
theorem split_empty : Txt.split "" " " = ([""] : List Str) := by decide +kernel
theorem head_rest (x : Str) : Txt.split x " " = headL x :: restL x := by
  unfold headL restL
  cases e : Txt.split x " " with
  | cons a r => rfl
  | nil =>
    cases q : decide (V.str x = V.str "") with
    | false => exact absurd e (split_ne q)
    | true =>
      have : x = "" := V.str.inj (of_decide_eq_true q)
      rw [this, split_empty] at e
      cases e
theorem colW_join (c : Nat) : ∀ (z : Str) (ws : List Str), colW (z.length + c) ws = (TL.joinL [32] ((z :: ws).map TL.tl)).length + c
  | z, [] => by
    show z.length + c = (TL.tl z).length + c
    rw [TL.len_tl]
  | z, y :: r => by
    have ih := colW_join (c + (z.length + 1)) y r
    have e : z.length + c + (y.length + 1) = y.length + (c + (z.length + 1)) := by omega
    show colW (z.length + c + (y.length + 1)) r = (TL.tl z ++ ([32] ++ TL.joinL [32] ((y :: r).map TL.tl))).length + c
    have lz := TL.len_tl z
    rw [e, ih, List.length_append, List.length_append]
    show _ = (TL.tl z).length + (1 + _) + c
    omega
theorem colW_line (l : Str) (c : Nat) : colW ((headL l).length + c) (restL l) = l.length + c := by
  rw [colW_join, ← head_rest]
  have e : TL.joinL [32] ((Txt.split l " ").map TL.tl) = TL.tl l := by
    have h : TL.tl (" " : Str) = [32] := by decide +kernel
    rw [← h, ← TL.tl_join, StrLaws.join_split]
  rw [e, TL.len_tl]
def mkC (z : Str) (is : List Int) : Crs := (crsX (.tup (.s z :: is.map Ax.n))).getD (.fin 0)
theorem goW_inr : ∀ (fs : List Fd) (ws : List Str) (c : Int) (acc is : List Int), goW fs ws c acc = .inr is → ∃ js, is = acc ++ js ∧ js.length = fs.length ∧ ((fs.zip js).all fun q => okF q.1 q.2) = true
  | [], [], c, acc, is, h => by
    cases h
    exact ⟨[], (List.append_nil _).symm, rfl, rfl⟩
  | _ :: _, [], c, acc, is, h => nomatch h
  | [], _ :: _, c, acc, is, h => nomatch h
  | f :: fs, w :: ws, c, acc, is, h => by
    have e : goW (f :: fs) (w :: ws) c acc = if told f w = true then goW fs ws (c + ((w.length : Int) + 1)) (acc ++ [tokV w]) else .inl c := rfl
    rw [e] at h
    cases ht : told f w with
    | false =>
      rw [ht, if_neg Bool.false_ne_true] at h
      cases h
    | true =>
      rw [ht, if_pos rfl] at h
      obtain ⟨js, e1, e2, e3⟩ := goW_inr fs ws _ _ is h
      refine ⟨tokV w :: js, by rw [e1, List.append_assoc]; rfl, congrArg (· + 1) e2, ?_⟩
      rw [List.zip_cons_cons, List.all_cons, e3, Bool.and_true]
      exact (Bool.and_eq_true_iff.mp ht).2
theorem lineP_ok {w : Wk} {z : Str} {ws : List Str} {is : List Int} (h : lineP w z ws = .inr is) : (mkC z is).wd = z ∧ (mkC z is).is = is ∧ canC w (mkC z is) = true := by
  unfold lineP at h
  cases hf : fld w z with
  | none => rw [hf] at h; cases h
  | some fs =>
    rw [hf] at h
    obtain ⟨js, e1, e2, e3⟩ := goW_inr fs ws _ _ is h
    rw [List.nil_append] at e1
    subst e1
    have hc : canX w (.tup (.s z :: is.map Ax.n)) = true := by
      rw [canX_s, hf]
      show (decide ((is.map Ax.n).length = fs.length) && _) = true
      rw [List.length_map, e2, okA_map, e3, decide_eq_true rfl]
      rfl
    obtain ⟨x, ex, cx⟩ := can_crs hc
    have em : mkC z is = x := by
      unfold mkC
      rw [ex, crsX_ci]
      rfl
    rw [em]
    have e4 : (Ci.tup (.s z :: is.map Ax.n)) = Ci.tup (.s x.wd :: x.is.map Ax.n) := ex
    injection e4 with e5
    injection e5 with e6 e7
    injection e6 with e8
    refine ⟨e8.symm, ?_, cx⟩
    have inj : ∀ (as bs : List Int), as.map Ax.n = bs.map Ax.n → as = bs := by
      intro as
      induction as with
      | nil => intro bs h; cases bs with | nil => rfl | cons _ _ => cases h
      | cons a as ih =>
        intro bs h
        cases bs with
        | nil => cases h
        | cons b bs =>
          injection h with h1 h2
          injection h1 with h3
          rw [h3, ih bs h2]
    exact (inj _ _ e7).symm
/-- the first wrong word of the lines, or the row -/
def rowP : Nat → Wk → List Crs → List Str → (Nat × Int) ⊕ List Crs
  | _, _, acc, [] => .inr acc
  | k, w, acc, l :: r => match lineP w (headL l) (restL l) with
    | .inl c => .inl (k + 1, c)
    | .inr is => rowP (k + 1) (tk w (mkC (headL l) is)) (acc ++ [mkC (headL l) is]) r
def readT (t : Str) : (Nat × Int) ⊕ List Crs := rowP 0 w0 [] (Txt.split t "\n")
theorem WkAt.sm {CW : Addr} {H H' : Hp} {p d al : Addr} {w : Wk} (W : WkAt CW H p d al w) (s : Same H H') : WkAt CW H' p d al w :=
  ⟨s _ _ W.hp, by obtain ⟨as, a1, a2⟩ := W.ha; exact ⟨as, s _ _ a1, a2.mono fun q xs e => s _ _ e⟩⟩
theorem WkAt.put {CW : Addr} {H : Hp} {p d al R : Addr} {w : Wk} {o : HO} {xs : List V} (W : WkAt CW H p d al w) (n1 : R ≠ p) (n2 : R ≠ al) (h : H R = some (.lst xs)) : WkAt CW (upd H R o) p d al w :=
  ⟨(upd_ne n1.symm).trans W.hp, by obtain ⟨as, a1, a2⟩ := W.ha; exact ⟨as, (upd_ne n2.symm).trans a1, a2.mono fun q xs e => (upd_ne (ne_of e h (fun z => nomatch z))).trans e⟩⟩
def spRowOf (C : Addr) : Sp := fun vs H Q E => ∃ v : V, vs = [v] ∧ PlV H v ∧
  ((∀ t, v ≠ .str t) → ∀ d H', Same H H' → H' d = none → E (.ref C) (some d) (upd H' d (.xd [("column", .int 1), ("line", .int 1)]))) ∧
  ∀ t, v = .str t → t.length ≤ 90000 ∧
    (∀ k c, readT t = .inl (k, c) → ∀ d H', Same H H' → H' d = none → E (.ref C) (some d) (upd H' d (.xd [("column", .int c), ("line", .int (k : Int))]))) ∧
    ∀ cs, readT t = .inr cs → ∀ l H', Same H H' → H l = none → RwAt H' l cs → Q (.ref l) H'
section
variable {P : Program} {w : World} {K : PySem.W.Frag} {mg : Str → Option Value} {base : Heap} {CW : Addr}
abbrev nRo : List Str := ["text", "walk", "row", "at", "line", "crossing"]
theorem sc_row_of : FnScope nRo ["text"] (defScope s_row_of) := ⟨rfl, rfl, rfl, by decide +kernel, rfl, by decide +kernel, by decide +kernel⟩
theorem ok_row_of {f fI fC C : Addr} {fd fdI fdC : FuncData} (F : Fun K "row_of" "row_of" s_row_of f fd) (T : Txt K mg) (TW : TxW K CW) (nEnum : mg "enumerate" = none)
    (TE : ErrF P K mg "BadText" "line" C) (iC : PySem.W.findIn K (.ref C) "__init__" = some (some (.ref fI))) (tI : PySem.W.typeIn K (.ref fI) = some (.type "function"))
    (FI : FnOk P w K mg base CX0 1 fI fdI ["self", "line", "column"] (spErr2 C "line" "column")) (bI : Binds K fdI ["self", "line", "column"] [])
    (FC : FnOk P w K mg base (L2.CX P w) 6 fC fdC ["walk", "line", "words"] (spCrTold K CW C)) (mC : mg "crossing_told" = some (.ref fC)) (kC : PySem.W.keepIn K (.ref fC) = true) (bC : Binds K fdC ["walk", "line", "words"] [])
    (DK : MakF P w K mg base CX0 5 "RowWalk" CW ["self"] (spKInit CW)) (DT : MetF P w K mg base CX0 5 CW "take" ["self", "crossing"] (spTake CW)) :
    FnOk P w K mg base (L2.CX P w) 7 f fd ["text"] (spRowOf C) := by
  refine F.okX sc_row_of (fun vs H Q E h => ?_) (fun cdv A outer s H vs Q E hr h => ?_)
  · obtain ⟨v, rfl, _⟩ := h
    rfl
  obtain ⟨v, rfl, hp, h0, h1⟩ := h
  have nd := sc_row_of.nd
  have hr2 : Room 2 _ := hr.mono (by decide)
  refine ⟨_, pss_cons (ps_if (pt_not (pt_val (pe_callB call_isi (by rfl) T.nIsi (by decide +kernel) (pa_cons (pv 0) (pa_cons (pe_bltn (v := .ty "str") (by rfl) T.nStr (by decide +kernel) rfl) pa_nil))))) (pss_one (ps_raise rfl (takes_of rfl rfl rfl rfl) (pmk_err2 TE iC tI FI hr2 bI (by rfl) (pa_cons pe_int (pa_cons pe_int pa_nil))))) pss_nil)
      (pss_cons (ps_set (i := 1) nd rfl (Or.inl rfl) (pe_kD0 DK (hr.mono (by decide)) rfl pass0))
      (pss_cons (ps_set (i := 2) nd rfl (Or.inl rfl) (pe_lst pa_nil))
      (pss_cons (ps_for (passes_of rfl) rfl (pi_enum (by rfl) nEnum (pa_cons (pe_split (pv 0) pe_str) pa_nil)) (pg_tup (by rfl) (pgs_cons (pg_name (i := 3) nd rfl (Or.inl rfl)) (pgs_cons (pg_name (i := 4) nd rfl (Or.inl rfl)) pgs_nil)))
        (pss_cons (ps_set (i := 5) nd rfl (Or.inl rfl) (pe_callS FC hr rfl mC kC bC (fun σ => L2.passAt (takes_of rfl rfl rfl rfl) σ) (pa_cons (pv 1) (pa_cons (pe_op op_add (pv 3) pe_int) (pa_cons (pe_split (pv 4) pe_str) pa_nil)))))
      (pss_cons (ps_expr (pe_mD (pv 1) TW.cl DT (hr.mono (by decide)) pass0 (pa_cons (pv 5) pa_nil)))
      (pss_one (ps_expr (pe_bm PySem.F.plainAttrs_list PySem.F.slot_list_append PySem.F.type_list_append mt_append (pv 2) (pa_cons (pv 5) pa_nil)))))))
      (pss_one (ps_ret (pv 2)))))), ?_⟩
  have f1 : FmtV (.int (1 : Int)) := ⟨toString (1 : Int), .int _ (by decide), by decide +kernel⟩
  have nonstr : (∀ t, v ≠ .str t) → ∀ d, H d = none → E (.ref C) (some d) (upd H d (.xd [("column", .int 1), ("line", .int 1)])) := fun a d => h0 a d H (Same.refl H)
  cases v with
  | byt _ => exact hp.elim
  | flt _ => exact hp.elim
  | ty _ => exact hp.elim
  | int i => exact ⟨_, rfl, _, _, _, _, _, rfl, .ty "str", .base (.int i), kit_ty (r := false) (by decide +kernel), _, rfl, iteT ⟨_, _, rfl, f1, f1, fun d nd => nonstr (fun t z => nomatch z) d nd⟩⟩
  | bl b => exact ⟨_, rfl, _, _, _, _, _, rfl, .ty "str", .base (.bl b), kit_ty (r := false) (by decide +kernel), _, rfl, iteT ⟨_, _, rfl, f1, f1, fun d nd => nonstr (fun t z => nomatch z) d nd⟩⟩
  | non => exact ⟨_, rfl, _, _, _, _, _, rfl, .ty "str", .base .non, kit_ty (r := false) (by decide +kernel), _, rfl, iteT ⟨_, _, rfl, f1, f1, fun d nd => nonstr (fun t z => nomatch z) d nd⟩⟩
  | ref a =>
    rcases hp with ⟨xs, hx⟩ | ⟨xs, hx⟩
    · exact ⟨_, rfl, _, _, _, _, _, rfl, .ty "str", .base (.tup hx), kit_ty (r := false) (by decide +kernel), _, rfl, iteT ⟨_, _, rfl, f1, f1, fun d nd => nonstr (fun t z => nomatch z) d nd⟩⟩
    · exact ⟨_, rfl, _, _, _, _, _, rfl, .ty "str", .base (.lst hx), kit_ty (r := false) (by decide +kernel), _, rfl, iteT ⟨_, _, rfl, f1, f1, fun d nd => nonstr (fun t z => nomatch z) d nd⟩⟩
  | str t =>
  obtain ⟨ht, k0, k1⟩ := h1 t rfl
  refine ⟨_, rfl, _, _, _, _, _, rfl, .ty "str", .base (.str t), kit_ty (r := true) (by decide +kernel), _, rfl, iteF ?_⟩
  clear nonstr h0 h1 hp
  intro p d np ndx npd
  have s1 := sadd (o := .ins CW d []) (sadd (o := .own p) (Same.refl H) ndx) (by rw [upd_ne npd.symm]; exact np)
  have hp1 : upd (upd H d (.own p)) p (.ins CW d []) p = some (.ins CW d []) := upd_same
  generalize upd (upd H d (.own p)) p (.ins CW d []) = H1 at s1 hp1 ⊢
  refine ⟨p, d, rfl, hp1, fun al H2 nal alp W k2 => ⟨rfl, ?_⟩⟩
  have nalH : H al = none := s1.free nal
  have f2 : ∀ q ∈ [p], H q = none := fun q hq => by rw [List.mem_singleton.mp hq]; exact np
  have f3 : ∀ q ∈ [p, al], H q = none := fun q hq => by
    rcases List.mem_cons.mp hq with z | z
    · rw [z]; exact np
    · rw [List.mem_singleton.mp z]; exact nalH
  have s2 : Same H H2 := Same.kept s1 k2 f2
  clear s1 hp1 k2 nal
  refine ⟨by show 0 ≤ sizeLine; decide, fun R nR => ?_⟩
  have nRp : R ≠ p := (ne_of_none W.hp nR).symm
  have nRal : R ≠ al := by
    obtain ⟨as, a1, _⟩ := W.ha
    exact (ne_of_none a1 nR).symm
  have nRH : H R = none := s2.free nR
  have s3 := sadd (o := .lst []) s2 nR
  have W3 := W.sm (sadd (o := .lst []) (Same.refl H2) nR)
  have R3 : RwAt (upd H2 R (.lst [])) R [] := ⟨[], upd_same, .nil⟩
  generalize upd H2 R (.lst []) = H3 at s3 W3 R3 ⊢
  clear s2 W nR
  refine ⟨_, rfl, ⟨t, rfl⟩, t, "
", rfl, rfl, by decide +kernel, by rw [sizeLine_eq]; omega, fun L nL => ?_⟩
  obtain ⟨b1, b2⟩ := split_bounds (y := "
") (c := 10) (by decide +kernel) t
  unfold readT at k0 k1
  generalize Txt.split t "
" = ls at b1 b2 k0 k1 ⊢
  have hL : upd H3 L (.lst (ls.map V.str)) L = some (.lst (ls.map V.str)) := upd_same
  have sl := sadd (o := .lst (ls.map V.str)) (Same.refl H3) nL
  have s4 := s3.trans sl
  have W4 := W3.sm sl
  have R4 := R3.same sl
  have nRL : L ≠ R := by
    obtain ⟨ps, r1, _⟩ := R3
    exact (ne_of_none r1 nL).symm
  have nLp : L ≠ p := (ne_of_none W3.hp nL).symm
  have nLal : L ≠ al := by
    obtain ⟨as, a1, _⟩ := W3.ha
    exact (ne_of_none a1 nL).symm
  generalize upd H3 L (.lst (ls.map V.str)) = H4 at hL s4 W4 R4 ⊢
  clear s3 W3 R3 sl nL
  have wk' := walk_enum (K := K) (a := L) (xs := ls.map V.str)
  rw [List.length_map] at wk'
  refine ⟨L, _, rfl, SqL.of hL, ?_⟩
  refine for_it wk' (fun i σ H' => ∃ (cs : List Crs) (v3 v4 v5 : Option V), σ = [some (.str t), some (.ref p), some (.ref R), v3, v4, v5] ∧ Same H H' ∧ H' L = some (.lst (ls.map V.str)) ∧ WkAt CW H' p d al (wk w0 cs) ∧ RwAt H' R cs ∧ cs.length = i ∧ rowP i (wk w0 cs) cs (ls.drop i) = rowP 0 w0 [] ls)
    ⟨[], none, none, none, rfl, s4, hL, W4, R4, rfl, rfl⟩ (fun i σ H' _ h => by obtain ⟨_, _, _, _, _, _, h, _⟩ := h; exact SqL.of h) ?turn ?done
  case done =>
    rintro σ Hz ⟨cs, v3, v4, v5, rfl, sz, hLz, Wz, Rz, lz, hg⟩
    rw [List.drop_length] at hg
    exact ⟨_, rfl, k1 cs hg.symm R Hz sz nRH Rz⟩
  case turn =>
    rintro i x σ Ha _ hi ⟨cs, v3, v4, v5, rfl, sa, hLa, Wa, Ra, la, hg⟩ ⟨T', x1, y1, rfl, nT, rfl, hx1, hy1⟩
    cases hx1
    replace hy1 : (List.map V.str ls)[i]? = some y1 := hy1
    rw [List.getElem?_map] at hy1
    obtain ⟨l, hl, rfl⟩ := Option.map_eq_some_iff.mp hy1
    have ll : l.length ≤ 90000 := Nat.le_trans (b2 l (List.mem_of_getElem? hl)) ht
    have hil : i < ls.length := (List.getElem?_eq_some_iff.mp hl).1
    have hd : ls.drop i = l :: ls.drop (i + 1) := by
      obtain ⟨h1, h2⟩ := List.getElem?_eq_some_iff.mp hl
      rw [← h2]
      exact List.drop_eq_getElem_cons h1
    rw [hd] at hg
    have eg : rowP i (wk w0 cs) cs (l :: ls.drop (i + 1)) = match lineP (wk w0 cs) (headL l) (restL l) with
      | .inl c => .inl (i + 1, c)
      | .inr is => rowP (i + 1) (tk (wk w0 cs) (mkC (headL l) is)) (cs ++ [mkC (headL l) is]) (ls.drop (i + 1)) := rfl
    rw [eg] at hg
    have st := sadd (o := .tup [.int (i : Nat), .str l]) (Same.refl Ha) nT
    have hT : upd Ha T' (.tup [.int (i : Nat), .str l]) T' = some (.tup [.int (i : Nat), .str l]) := upd_same
    have sb := sa.trans st
    have hLb := st _ _ hLa
    have Wb := Wa.sm st
    have Rb := Ra.same st
    generalize upd Ha T' (.tup [.int (i : Nat), .str l]) = Hb at hT sb hLb Wb Rb ⊢
    clear st sa hLa Wa Ra nT
    refine ⟨T', _, rfl, SqT.of hT, rfl, _, _, rfl, _, _, rfl, rfl, ?_⟩
    refine ⟨_, rfl, _, rfl, _, _, rfl, rfl, _, rfl, ⟨l, rfl⟩, l, " ", rfl, rfl, by decide +kernel, by rw [sizeLine_eq]; omega, fun ww nww => ?_⟩
    obtain ⟨w1, w2⟩ := split_bounds (y := " ") (c := 32) (by decide +kernel) l
    have hc := colW_line l 2
    rw [head_rest] at w1 w2 ⊢
    rw [List.length_cons] at w1
    have st := sadd (o := .lst ((headL l :: restL l).map V.str)) (Same.refl Hb) nww
    have hww : upd Hb ww (.lst ((headL l :: restL l).map V.str)) ww = some (.lst ((headL l :: restL l).map V.str)) := upd_same
    have sc := sb.trans st
    have hLc := st _ _ hLb
    have Wc := Wb.sm st
    have Rc := Rb.same st
    generalize upd Hb ww (.lst ((headL l :: restL l).map V.str)) = Hc at hww sc hLc Wc Rc ⊢
    clear st sb hLb Wb Rb nww
    have lw : (wk w0 cs).asks.length ≤ 1000000 := by
      have := wk_len cs w0
      have e0 : w0.asks.length = 0 := rfl
      omega
    refine ⟨p, d, al, ww, wk w0 cs, i + 1, headL l, restL l, rfl, Wc, lw, hww, by omega, by omega, fun y hy => Nat.le_trans (w2 y hy) (by omega), by omega, fun c e dd Hy sy nd => ?_, fun is e tt Hy sy ntt htt => ?_⟩
    · rw [e] at hg
      exact k0 (i + 1) c hg.symm dd Hy (sc.trans sy) nd
    · rw [e] at hg
      replace hg : rowP (i + 1) (tk (wk w0 cs) (mkC (headL l) is)) (cs ++ [mkC (headL l) is]) (ls.drop (i + 1)) = rowP 0 w0 [] ls := hg
      obtain ⟨e1, e2, e3⟩ := lineP_ok e
      generalize mkC (headL l) is = x at hg e1 e2 e3
      have hx : Hy tt = some (.tup x.vs) := by rw [Crs.vs_eq, e1, e2]; exact htt
      have Wy := Wc.sm sy
      have Ry := Rc.same sy
      have hLy := sy _ _ hLc
      have sy2 := sc.trans sy
      refine ⟨_, rfl, p, d, _, rfl, Wy.hp, rfl, _, rfl, ?_⟩
      refine ⟨p, d, al, tt, wk w0 cs, x, rfl, Wy, alp.symm, lw, hx, canC_back e3, fun Hz Wz kz => ?_⟩
      have sz : Same H Hz := Same.kept sy2 kz f3
      have tz : ∀ q xs, Hy q = some (.tup xs) → Hz q = some (.tup xs) := fun q xs e => kz q _ e (fun z => by
        rcases List.mem_cons.mp z with z | z
        · rw [z, Wy.hp] at e; cases e
        · obtain ⟨as, a1, _⟩ := Wy.ha
          rw [List.mem_singleton.mp z, a1] at e; cases e)
      have lz : ∀ q o, q ≠ p → q ≠ al → Hy q = some o → Hz q = some o := fun q o h1 h2 e => kz q _ e (fun z => by
        rcases List.mem_cons.mp z with z | z
        · exact h1 z
        · exact h2 (List.mem_singleton.mp z))
      have Rz : RwAt Hz R cs := by
        obtain ⟨ps, r1, r2⟩ := Ry
        exact ⟨ps, lz R _ nRp nRal r1, r2.mono tz⟩
      have hLz := lz L _ nLp nLal hLy
      have hxz := tz _ _ hx
      obtain ⟨ps, q1, q2, q3, q4⟩ := Rz.add hxz
      refine ⟨_, rfl, .inl ⟨rfl, _, SqL.of q1⟩, _, rfl, R, _, _, rfl, rfl, q1, (by rw [List.length_map, q2, sizeLine_eq]; omega), ?_⟩
      have Wn := Wz.put (o := .lst (ps.map V.ref ++ [.ref tt])) nRp nRal q1
      refine ⟨cs ++ [x], some (.int (i : Int)), some (.str l), some (.ref tt), rfl, sout sz nRH, (upd_ne nRL).trans hLz, ?_, q3, by rw [List.length_append, la]; rfl, ?_⟩
      · rw [wk_snoc]
        exact Wn
      · rw [wk_snoc]
        exact hg
end
end OH
end
section
set_option Elab.async false
set_option linter.all false
set_option maxRecDepth 100000
set_option maxHeartbeats 8000000
/-! The text of a row. -/
namespace OH
open PySem PySem.Spec PyProof.Rows L2
theorem call_strB {X : Cx} : CallR X (.type "str") (fun xs H Q => (∃ a, xs = [.str a] ∧ Q (.str a) H) ∨ ∃ i, xs = [.int i] ∧ i.natAbs.log2 < 1920 ∧ Q (.str (toString i)) H) := by
  intro pins s σ H xs us Q I r h
  rcases h with h | h
  · exact SkE.call_str_str pins s σ H xs us Q I r h
  · exact call_str_int pins s σ H xs us Q I r h
def scCr : Scope := { kind := .function, names := [(".0", .local), ("crossing", .local)], isGenerator := false, isCoroutine := false }
def rStrB : List V → Hp → VK → Prop := fun xs H Q => (∃ a, xs = [.str a] ∧ Q (.str a) H) ∨ ∃ i, xs = [.int i] ∧ i.natAbs.log2 < 1920 ∧ Q (.str (toString i)) H
def rJoinK (K : PySem.W.Frag) : V → List V → Hp → VK → Prop := fun x xs H Q => ∃ a p, ∃ ys : List Str, x = .str a ∧ xs = [.ref p] ∧ (SqL K H p (ys.map V.str) ∨ SqT K H p (ys.map V.str)) ∧
      (ys.map (·.length)).sum + ys.length * a.length ≤ 16777216 ∧ Q (.str (Txt.join a ys)) H
def tLineK (K : PySem.W.Frag) : TE := tM1 (rJoinK K) (tC (.str " ")) (tLc (iTup K (tVar 2)) (gName 1) tYes (tCB rStrB (tCons (tVar 1) tNil)) [1])
def lineT (x : Crs) : Str := Txt.join " " (x.wd :: x.is.map fun i => (toString i : Str))
def rowT (cs : List Crs) : Str := Txt.join "\n" (cs.map lineT)
def spOwnT : Sp := fun vs H Q _ => ∃ (l : Addr) (cs : List Crs), vs = [.ref l] ∧ RwAt H l cs ∧ cs.length ≤ 2000 ∧ (∀ x ∈ cs, ∀ i ∈ x.is, 0 ≤ i ∧ i ≤ 9999) ∧ ∀ H', Same H H' → Q (.str (rowT cs)) H'
theorem toStr4 {i : Int} (h0 : 0 ≤ i) (h1 : i ≤ 9999) : (toString i : Str).length ≤ 4 := PyProof.Rows.toString_length_le h0 (by decide) (by omega)
theorem log_small {i : Int} (h0 : 0 ≤ i) (h1 : i ≤ 9999) : i.natAbs.log2 < 1920 := by
  by_cases hk0 : i.natAbs = 0
  · rw [hk0]
    decide
  · have := (Nat.log2_lt (k := 14) hk0).mpr (by omega)
    omega
def wdsT (x : Crs) : List Str := x.wd :: x.is.map fun i => (toString i : Str)
theorem wds_len {x : Crs} (hb : ∀ i ∈ x.is, 0 ≤ i ∧ i ≤ 9999) : ∀ z ∈ wdsT x, z.length ≤ 5 := fun z hz => by
  rcases List.mem_cons.mp hz with rfl | hz
  · have hw : ∀ y : Crs, y.wd.length ≤ 5 := fun y => by
      cases y with
      | start _ => exact (by decide +kernel : ("start" : Str).length ≤ 5)
      | call _ _ _ _ => exact (by decide +kernel : ("call" : Str).length ≤ 5)
      | back _ _ _ => exact (by decide +kernel : ("back" : Str).length ≤ 5)
      | deep _ _ _ _ => exact (by decide +kernel : ("deep" : Str).length ≤ 5)
      | done _ => exact (by decide +kernel : ("done" : Str).length ≤ 5)
      | fin _ => exact (by decide +kernel : ("end" : Str).length ≤ 5)
    exact hw x
  · obtain ⟨i, hi, rfl⟩ := List.mem_map.mp hz
    obtain ⟨h0, h1⟩ := hb i hi
    exact Nat.le_trans (toStr4 h0 h1) (by decide)
theorem is_le4 (x : Crs) : x.is.length ≤ 4 := by cases x <;> exact Nat.le_of_ble_eq_true rfl
theorem sum_le {n : Nat} : ∀ {l : List Nat}, (∀ z ∈ l, z ≤ n) → l.sum ≤ l.length * n
  | [], _ => Nat.zero_le _
  | x :: l, h => by
    have h1 := h x (List.mem_cons_self ..)
    have h2 := sum_le (l := l) fun z hz => h z (List.mem_cons_of_mem _ hz)
    rw [List.sum_cons, List.length_cons, Nat.add_mul]
    omega
theorem line_rd {K : PySem.W.Frag} {o0 o1 : Option V} {q : Addr} {x : Crs} {H : Hp} {Q : VK} (hq : H q = some (.tup x.vs)) (hb : ∀ i ∈ x.is, 0 ≤ i ∧ i ≤ 9999) (k : ∀ H', Same H H' → Q (.str (lineT x)) H') : tLineK K [o0, o1, some (.ref q)] H Q := by
  refine ⟨⟨_, rfl⟩, _, rfl, q, rfl, ⟨_, SqT.of hq⟩, fun D nD => ?_⟩
  have lv : x.vs.length = (wdsT x).length := by
    rw [Crs.vs_eq]
    show (x.is.map V.int).length + 1 = (x.is.map _).length + 1
    rw [List.length_map, List.length_map]
  have lw : (wdsT x).length ≤ 5 := by
    show (x.is.map _).length + 1 ≤ 5
    rw [List.length_map]
    have := is_le4 x
    omega
  refine lc_tup (K := K) (a := q) (xs := x.vs) (fun i H' => Same H H' ∧ H' D = some (.lst (((wdsT x).take i).map V.str)))
    ⟨sadd (Same.refl H) nD, upd_same⟩ (fun i H' _ ⟨s, _⟩ => (SqT.of hq).sm s) ?turn ?done
  case turn =>
    rintro i v H1 hv ⟨s1, hD⟩
    refine ⟨rfl, ?_⟩
    unfold tYes
    refine iteT ?_
    have hi : i < x.vs.length := (List.getElem?_eq_some_iff.mp hv).1
    obtain ⟨z, hz⟩ : ∃ z, (wdsT x)[i]? = some z := ⟨_, List.getElem?_eq_getElem (by rw [← lv]; exact hi)⟩
    have fin : ∃ vs_1, H1 D = some (HO.lst vs_1) ∧ vs_1.length < sizeLine ∧ Same H (upd H1 D (.lst (vs_1 ++ [V.str z]))) ∧ upd H1 D (.lst (vs_1 ++ [V.str z])) D = some (.lst (((wdsT x).take (i + 1)).map V.str)) := by
      refine ⟨_, hD, by rw [List.length_map, List.length_take, sizeLine_eq]; omega, sout s1 nD, ?_⟩
      rw [upd_same, List.take_add_one, hz, List.map_append]
      rfl
    rw [Crs.vs_eq] at hv
    cases i with
    | zero =>
      cases hv
      cases hz
      exact ⟨_, rfl, .inl ⟨_, rfl, fin⟩⟩
    | succ i =>
      rw [List.getElem?_cons_succ, List.getElem?_map] at hv
      obtain ⟨j, hj, rfl⟩ := Option.map_eq_some_iff.mp hv
      have hz2 : (x.is.map fun i => (toString i : Str))[i]? = some z := hz
      rw [List.getElem?_map, hj] at hz2
      cases hz2
      obtain ⟨b0, b1⟩ := hb j (List.mem_of_getElem? hj)
      exact ⟨_, rfl, .inr ⟨j, rfl, log_small b0 b1, fin⟩⟩
  case done =>
    rintro H1 ⟨s1, hD⟩
    rw [lv, List.take_length] at hD
    refine ⟨_, D, wdsT x, rfl, rfl, .inl (SqL.of hD), ?_, k _ s1⟩
    have a1 : (" " : Str).length = 1 := by decide +kernel
    have a2 := sum_le (n := 5) (l := (wdsT x).map (·.length)) fun z hz => by
      obtain ⟨y, hy, rfl⟩ := List.mem_map.mp hz
      exact wds_len hb y hy
    rw [List.length_map] at a2
    rw [a1]
    omega
theorem joinL_len {c : Nat} : ∀ (ps : List (List Nat)), (TL.joinL [c] ps).length ≤ (ps.map List.length).sum + ps.length
  | [] => Nat.zero_le _
  | [p] => by show p.length ≤ [p.length].sum + 1; rw [List.sum_cons]; omega
  | p :: q :: r => by
    have ih := joinL_len (c := c) (q :: r)
    show (p ++ ([c] ++ TL.joinL [c] (q :: r))).length ≤ (p.length :: (q :: r).map List.length).sum + ((q :: r).length + 1)
    rw [List.length_append, List.length_append, List.sum_cons]
    show p.length + (1 + _) ≤ _
    omega
theorem lineT_len {x : Crs} (hb : ∀ i ∈ x.is, 0 ≤ i ∧ i ≤ 9999) : (lineT x).length ≤ 30 := by
  have h : TL.tl (" " : Str) = [32] := by decide +kernel
  have e := TL.len_tl (lineT x)
  have e2 : TL.tl (lineT x) = TL.joinL [32] ((wdsT x).map TL.tl) := by
    show TL.tl (Txt.join " " (wdsT x)) = _
    rw [TL.join_eq, TL.tl_join, h]
  rw [e2] at e
  have a := joinL_len (c := 32) ((wdsT x).map TL.tl)
  have a2 := sum_le (n := 5) (l := ((wdsT x).map TL.tl).map List.length) fun z hz => by
    obtain ⟨y, hy, rfl⟩ := List.mem_map.mp hz
    obtain ⟨u, hu, rfl⟩ := List.mem_map.mp hy
    rw [← TL.len_tl]
    exact wds_len hb u hu
  have l4 := is_le4 x
  have lw : (wdsT x).length = x.is.length + 1 := by
    show (x.is.map _).length + 1 = _
    rw [List.length_map]
  rw [List.length_map, List.length_map] at a2
  rw [List.length_map] at a
  omega
theorem rowsL_rd {K : PySem.W.Frag} {o1 o2 : Option V} {l : Addr} {ps : List Addr} {cs : List Crs} {H : Hp} {Q : VK} (h1 : H l = some (.lst (ps.map V.ref))) (h2 : AllAt H Crs.vs ps cs) (hn : cs.length ≤ 2000) (hb : ∀ x ∈ cs, ∀ i ∈ x.is, 0 ≤ i ∧ i ≤ 9999) (k : ∀ H', Same H H' → Q (.str (rowT cs)) H') :
    tM1 (rJoinK K) (tC (.str "\n")) (tLc (iList K (tVar 0)) (gName 2) tYes (tLineK K) [2]) [some (.ref l), o1, o2] H Q := by
  refine ⟨⟨_, rfl⟩, _, rfl, l, rfl, ⟨_, SqL.of h1⟩, fun D nD => ?_⟩
  have lp := h2.len
  refine lc_list (K := K) (a := l) (xs := ps.map V.ref) (fun i H' => Same H H' ∧ H' D = some (.lst (((cs.map lineT).take i).map V.str)))
    ⟨sadd (Same.refl H) nD, upd_same⟩ (fun i H' _ ⟨s, _⟩ => SqL.of (s _ _ h1)) ?turn ?done
  case turn =>
    rintro i v H1 hv ⟨s1, hD⟩
    refine ⟨rfl, ?_⟩
    unfold tYes
    refine iteT ?_
    rw [List.getElem?_map] at hv
    obtain ⟨q, hq, rfl⟩ := Option.map_eq_some_iff.mp hv
    have hi : i < cs.length := by rw [← lp]; exact (List.getElem?_eq_some_iff.mp hq).1
    obtain ⟨x, hx⟩ : ∃ x, cs[i]? = some x := ⟨_, List.getElem?_eq_getElem hi⟩
    obtain ⟨q', hq', hqx⟩ := h2.get hx
    rw [hq] at hq'
    cases hq'
    refine line_rd (s1 _ _ hqx) (hb x (List.mem_of_getElem? hx)) fun H2 s2 => ?_
    have hD2 := s2 _ _ hD
    refine ⟨_, hD2, by rw [List.length_map, List.length_take, List.length_map, sizeLine_eq]; omega, sout (s1.trans s2) nD, ?_⟩
    rw [upd_same, List.take_add_one, List.getElem?_map, hx, List.map_append]
    rfl
  case done =>
    rintro H1 ⟨s1, hD⟩
    rw [List.length_map, lp, ← List.length_map (f := lineT), List.take_length] at hD
    refine ⟨_, D, cs.map lineT, rfl, rfl, .inl (SqL.of hD), ?_, k _ s1⟩
    have a1 : ("\n" : Str).length = 1 := by decide +kernel
    have a2 := sum_le (n := 30) (l := (cs.map lineT).map (·.length)) fun z hz => by
      obtain ⟨y, hy, rfl⟩ := List.mem_map.mp hz
      obtain ⟨x, hx, rfl⟩ := List.mem_map.mp hy
      exact lineT_len (hb x hx)
    rw [List.length_map, List.length_map] at a2
    rw [a1, List.length_map]
    omega
theorem rowsT_rd {K : PySem.W.Frag} {o1 o2 : Option V} {l : Addr} {ps : List Addr} {cs : List Crs} {H : Hp} {Q : VK} (h1 : H l = some (.tup (ps.map V.ref))) (h2 : AllAt H Crs.vs ps cs) (hn : cs.length ≤ 2000) (hb : ∀ x ∈ cs, ∀ i ∈ x.is, 0 ≤ i ∧ i ≤ 9999) (k : ∀ H', Same H H' → Q (.str (rowT cs)) H') :
    tM1 (rJoinK K) (tC (.str "\n")) (tLc (iTup K (tVar 0)) (gName 2) tYes (tLineK K) [2]) [some (.ref l), o1, o2] H Q := by
  refine ⟨⟨_, rfl⟩, _, rfl, l, rfl, ⟨_, SqT.of h1⟩, fun D nD => ?_⟩
  have lp := h2.len
  refine lc_tup (K := K) (a := l) (xs := ps.map V.ref) (fun i H' => Same H H' ∧ H' D = some (.lst (((cs.map lineT).take i).map V.str)))
    ⟨sadd (Same.refl H) nD, upd_same⟩ (fun i H' _ ⟨s, _⟩ => SqT.of (s _ _ h1)) ?turn ?done
  case turn =>
    rintro i v H1 hv ⟨s1, hD⟩
    refine ⟨rfl, ?_⟩
    unfold tYes
    refine iteT ?_
    rw [List.getElem?_map] at hv
    obtain ⟨q, hq, rfl⟩ := Option.map_eq_some_iff.mp hv
    have hi : i < cs.length := by rw [← lp]; exact (List.getElem?_eq_some_iff.mp hq).1
    obtain ⟨x, hx⟩ : ∃ x, cs[i]? = some x := ⟨_, List.getElem?_eq_getElem hi⟩
    obtain ⟨q', hq', hqx⟩ := h2.get hx
    rw [hq] at hq'
    cases hq'
    refine line_rd (s1 _ _ hqx) (hb x (List.mem_of_getElem? hx)) fun H2 s2 => ?_
    have hD2 := s2 _ _ hD
    refine ⟨_, hD2, by rw [List.length_map, List.length_take, List.length_map, sizeLine_eq]; omega, sout (s1.trans s2) nD, ?_⟩
    rw [upd_same, List.take_add_one, List.getElem?_map, hx, List.map_append]
    rfl
  case done =>
    rintro H1 ⟨s1, hD⟩
    rw [List.length_map, lp, ← List.length_map (f := lineT), List.take_length] at hD
    refine ⟨_, D, cs.map lineT, rfl, rfl, .inl (SqL.of hD), ?_, k _ s1⟩
    have a1 : ("\n" : Str).length = 1 := by decide +kernel
    have a2 := sum_le (n := 30) (l := (cs.map lineT).map (·.length)) fun z hz => by
      obtain ⟨y, hy, rfl⟩ := List.mem_map.mp hz
      obtain ⟨x, hx, rfl⟩ := List.mem_map.mp hy
      exact lineT_len (hb x hx)
    rw [List.length_map, List.length_map] at a2
    rw [a1, List.length_map]
    omega
section
variable {P : Program} {w : World} {K : PySem.W.Frag} {mg : Str → Option Value} {base : Heap}
abbrev nOt : List Str := ["row", "item", "crossing"]
theorem sc__law_own_text : FnScope nOt ["row"] (defScope s__law_own_text) := ⟨rfl, rfl, rfl, by decide +kernel, rfl, by decide +kernel, by decide +kernel⟩
theorem ok__law_own_text {f : Addr} {fd : FuncData} (F : Fun K "_law_own_text" "_law_own_text" s__law_own_text f fd) (T : Txt K mg) : FnOk P w K mg base CX0 1 f fd ["row"] spOwnT := by
  refine F.ok sc__law_own_text (fun vs H Q E h => ?_) (fun cdv A outer s H vs Q E hr h => ?_)
  · obtain ⟨l, cs, rfl, _⟩ := h
    rfl
  obtain ⟨l, cs, rfl, ⟨ps, h1, h2⟩, hn, hb, k⟩ := h
  have nd := sc__law_own_text.nd
  refine ⟨_, pss_one (ps_ret (pe_join pe_str (pe_lc (own := [("crossing", 2)]) (g := gName 2) (tt := tYes) (te := tLineK K) rfl nd (pi_list (pv 0)) (blkOk_by (own := [("crossing", 2)]) (N := nOt) (sc := defScope s__law_own_text) (by decide +kernel)) (fun _ _ _ _ _ => (pg_name (i := 2) nd rfl (Or.inl rfl))) (fun _ _ _ _ _ => pts_nil) (fun _ _ _ _ _ => pe_join pe_str (pe_lc (own := [("item", 1)]) (g := gName 1) (tt := tYes) rfl nd (pi_tup (pv 2)) (blkOk_by (own := [("item", 1)]) (N := nOt) (sc := scCr) (by decide +kernel)) (fun _ _ _ _ _ => pg_name (i := 1) nd rfl (Or.inl rfl)) (fun _ _ _ _ _ => pts_nil) (fun _ _ _ _ _ => (pe_callTy call_strB (by rfl) T.nStr (by decide +kernel) (pa_cons (pv 1) pa_nil)))))))), ?_⟩
  exact rowsL_rd h1 h2 hn hb k
end
end OH
end
section
set_option Elab.async false
set_option linter.all false
set_option maxRecDepth 100000
set_option maxHeartbeats 8000000
/-! row_text. -/
namespace OH
open PySem PySem.Spec PyProof.Rows L2
def spRowTX (CB : Addr) : Sp := fun vs H Q E => ∃ (Z : Addr → Prop) (v : V) (r : Rt), vs = [v] ∧ RtAt Z H v r ∧
  (∀ cs : List Crs, r = .seq (cs.map Crs.ci) → goodB cs = true → (∀ x ∈ cs, ∀ i ∈ x.is, 0 ≤ i ∧ i ≤ 9999) ∧ ∀ H', Same H H' → Q (.str (rowT cs)) H') ∧ (goodRt r = false → ∀ H', Same H H' → E (.ref CB) none H')
section
variable {P : Program} {w : World} {K : PySem.W.Frag} {mg : Str → Option Value} {base : Heap} {CB fN : Addr} {fdN : FuncData}
abbrev nRt : List Str := ["row", "item", "crossing"]
theorem sc_row_text : FnScope nRt ["row"] (defScope s_row_text) := ⟨rfl, rfl, rfl, by decide +kernel, rfl, by decide +kernel, by decide +kernel⟩
theorem ok_row_text {f : Addr} {fd : FuncData} (F : Fun K "row_text" "row_text" s_row_text f fd) (T : Txt K mg) (FN : FnOk P w K mg base (L2.CX P w) 5 fN fdN ["row"] (spNeedX CB)) (mN : mg "need_row" = some (.ref fN)) (kN : PySem.W.keepIn K (.ref fN) = true) (bN : Binds K fdN ["row"] []) :
    FnOk P w K mg base (L2.CX P w) 6 f fd ["row"] (spRowTX CB) := by
  refine F.okX sc_row_text (fun vs H Q E h => ?_) (fun cdv A outer s H vs Q E hr h => ?_)
  · obtain ⟨Z, v, r, rfl, _⟩ := h
    rfl
  obtain ⟨Z, v, r, rfl, hv, k1, k2⟩ := h
  have nd := sc_row_text.nd
  cases hg : goodRt r with
  | false =>
    refine ⟨_, pss_cons (ps_expr (pe_callS FN hr rfl mN kN bN (fun σ => L2.passAt (takes_of rfl rfl rfl rfl) σ) (pa_cons (pv 0) pa_nil)))
      (pss_one (ps_ret (pe_join pe_str (pe_lc (own := [("crossing", 2)]) (g := gName 2) (tt := tYes) (te := tLineK K) rfl nd (pi_list (pv 0)) (blkOk_by (own := [("crossing", 2)]) (N := nRt) (sc := defScope s_row_text) (by decide +kernel)) (fun _ _ _ _ _ => (pg_name (i := 2) nd rfl (Or.inl rfl))) (fun _ _ _ _ _ => pts_nil) (fun _ _ _ _ _ => pe_join pe_str (pe_lc (own := [("item", 1)]) (g := gName 1) (tt := tYes) rfl nd (pi_tup (pv 2)) (blkOk_by (own := [("item", 1)]) (N := nRt) (sc := scCr) (by decide +kernel)) (fun _ _ _ _ _ => pg_name (i := 1) nd rfl (Or.inl rfl)) (fun _ _ _ _ _ => pts_nil) (fun _ _ _ _ _ => (pe_callTy call_strB (by rfl) T.nStr (by decide +kernel) (pa_cons (pv 1) pa_nil))))))))), ?_⟩
    exact ⟨_, rfl, Z, v, r, rfl, hv, fun h => absurd (hg.symm.trans h) (by decide), fun _ H1 s1 => k2 hg H1 s1⟩
  | true =>
    obtain ⟨cs, rfl, hgb⟩ := goodRt_crs hg
    obtain ⟨l, rfl, ⟨ps, h1, h2⟩, hn⟩ := hv.rwx
    obtain ⟨hb, kk⟩ := k1 cs rfl hgb
    rcases h1 with h1 | h1
    · refine ⟨_, pss_cons (ps_expr (pe_callS FN hr rfl mN kN bN (fun σ => L2.passAt (takes_of rfl rfl rfl rfl) σ) (pa_cons (pv 0) pa_nil)))
      (pss_one (ps_ret (pe_join pe_str (pe_lc (own := [("crossing", 2)]) (g := gName 2) (tt := tYes) (te := tLineK K) rfl nd (pi_list (pv 0)) (blkOk_by (own := [("crossing", 2)]) (N := nRt) (sc := defScope s_row_text) (by decide +kernel)) (fun _ _ _ _ _ => (pg_name (i := 2) nd rfl (Or.inl rfl))) (fun _ _ _ _ _ => pts_nil) (fun _ _ _ _ _ => pe_join pe_str (pe_lc (own := [("item", 1)]) (g := gName 1) (tt := tYes) rfl nd (pi_tup (pv 2)) (blkOk_by (own := [("item", 1)]) (N := nRt) (sc := scCr) (by decide +kernel)) (fun _ _ _ _ _ => pg_name (i := 1) nd rfl (Or.inl rfl)) (fun _ _ _ _ _ => pts_nil) (fun _ _ _ _ _ => (pe_callTy call_strB (by rfl) T.nStr (by decide +kernel) (pa_cons (pv 1) pa_nil))))))))), ?_⟩
      refine ⟨_, rfl, Z, _, _, rfl, hv, fun _ H1 s1 => ?_, fun h => absurd (hg.symm.trans h) (by decide)⟩
      exact rowsL_rd (s1 _ _ h1) (h2.mono fun q xs e => s1 _ _ e) hn hb fun H' s => kk H' (s1.trans s)
    · refine ⟨_, pss_cons (ps_expr (pe_callS FN hr rfl mN kN bN (fun σ => L2.passAt (takes_of rfl rfl rfl rfl) σ) (pa_cons (pv 0) pa_nil)))
      (pss_one (ps_ret (pe_join pe_str (pe_lc (own := [("crossing", 2)]) (g := gName 2) (tt := tYes) (te := tLineK K) rfl nd (pi_tup (pv 0)) (blkOk_by (own := [("crossing", 2)]) (N := nRt) (sc := defScope s_row_text) (by decide +kernel)) (fun _ _ _ _ _ => (pg_name (i := 2) nd rfl (Or.inl rfl))) (fun _ _ _ _ _ => pts_nil) (fun _ _ _ _ _ => pe_join pe_str (pe_lc (own := [("item", 1)]) (g := gName 1) (tt := tYes) rfl nd (pi_tup (pv 2)) (blkOk_by (own := [("item", 1)]) (N := nRt) (sc := scCr) (by decide +kernel)) (fun _ _ _ _ _ => pg_name (i := 1) nd rfl (Or.inl rfl)) (fun _ _ _ _ _ => pts_nil) (fun _ _ _ _ _ => (pe_callTy call_strB (by rfl) T.nStr (by decide +kernel) (pa_cons (pv 1) pa_nil))))))))), ?_⟩
      refine ⟨_, rfl, Z, _, _, rfl, hv, fun _ H1 s1 => ?_, fun h => absurd (hg.symm.trans h) (by decide)⟩
      exact rowsT_rd (s1 _ _ h1) (h2.mono fun q xs e => s1 _ _ e) hn hb fun H' s => kk H' (s1.trans s)
end
end OH
end
section
set_option Elab.async false
set_option linter.all false
set_option maxRecDepth 100000
set_option maxHeartbeats 8000000
/-! Words and numbers, both ways. -/
namespace OH
open PySem PySem.Spec PyProof.Rows L2
def strI (n : Int) : Str := toString n
theorem strI_len {n : Int} (h0 : 0 ≤ n) (h1 : n ≤ 9999) : (strI n).length ≤ 4 := PyProof.Rows.toString_length_le h0 (by decide) (by omega)
theorem strI_tl {n : Int} (h0 : 0 ≤ n) : TL.tl (strI n) = TL.numL n.toNat := by
  obtain ⟨m, rfl⟩ := Int.eq_ofNat_of_zero_le h0
  exact TL.tl_num m
theorem strI_digits {n : Int} (h0 : 0 ≤ n) : ∀ c ∈ TL.tl (strI n), 48 ≤ c ∧ c ≤ 57 := by
  rw [strI_tl h0]
  exact fun c hc => TL.numL_digits _ c hc
theorem numL_head : ∀ n : Nat, 0 < n → ∃ c r, TL.numL n = c :: r ∧ c ≠ 48 := by
  intro n
  induction n using Nat.strongRecOn with
  | _ n ih =>
    intro h0
    by_cases h : n < 10
    · exact ⟨48 + n, [], TL.numL_lt h, by omega⟩
    · obtain ⟨c, r, e, hc⟩ := ih (n / 10) (by omega) (by omega)
      refine ⟨c, r ++ [48 + n % 10], ?_, hc⟩
      rw [TL.numL_step (by omega), e]
      rfl
theorem isDig_of {c : Nat} (h : 48 ≤ c ∧ c ≤ 57) : isDig ⟨#[c]⟩ = true := by
  unfold isDig
  have z1 : ("0" : Str).cps.toList = [48] := by decide +kernel
  have z2 : ("9" : Str).cps.toList = [57] := by decide +kernel
  have e1 : ¬ ([c] : List Nat) < [48] := fun q => by
    cases q with
    | rel lt => omega
    | cons x => cases x
  have e2 : ¬ ([57] : List Nat) < [c] := fun q => by
    cases q with
    | rel lt => omega
    | cons x => cases x
  rw [z1, z2, decide_eq_false e1, decide_eq_false e2]
  rfl
theorem tok_strI {n : Int} (h0 : 0 ≤ n) (h1 : n ≤ 9999) : tokOk (strI n) = true ∧ tokV (strI n) = n := by
  have hl := strI_len h0 h1
  have et := strI_tl h0
  have ne : TL.tl (strI n) ≠ [] := by
    rw [et]
    exact TL.numL_ne _
  have hpos : 0 < (strI n).length := by
    have : (strI n).length = (TL.tl (strI n)).length := (Array.length_toList).symm
    rw [this]
    exact List.length_pos_iff.mpr ne
  have hd : areDig (strI n) = true := by
    unfold areDig
    rw [decide_eq_true hpos, Bool.true_and, List.all_eq_true]
    intro z hz
    obtain ⟨c, hc, rfl⟩ := List.mem_map.mp hz
    exact isDig_of (strI_digits h0 c hc)
  have hw : wholeT (strI n) = true := by
    unfold wholeT
    rw [hd, Bool.true_and, Bool.or_eq_true]
    by_cases z : n = 0
    · subst z
      exact .inl (by decide +kernel)
    · obtain ⟨c, r, e, hc⟩ := numL_head n.toNat (by omega)
      right
      have eh : headS (strI n) = ⟨#[c]⟩ := by
        unfold headS
        have e2 : (strI n).cps.toList = c :: r := et.trans e
        rw [e2]
      rw [eh]
      have nz : (V.str (⟨#[c]⟩ : Str)) ≠ V.str "0" := fun q => by
        injection q with q
        have q2 : ([c] : List Nat) = TL.tl ("0" : Str) := congrArg TL.tl q
        have z1 : TL.tl ("0" : Str) = [48] := by decide +kernel
        rw [z1] at q2
        injection q2 with q3
        exact hc q3
      rw [decide_eq_false nz]
      rfl
  refine ⟨?_, ?_⟩
  · unfold tokOk
    rw [hw, decide_eq_true (by omega)]
    rfl
  · unfold tokV
    have q : intText? (strI n) = some n := PySem.W.KIN.num_reads h0 (by omega)
    rw [q]
    rfl
theorem tok_digits {z : Str} (h : tokOk z = true) : PySem.NumText.AllDigits (TL.tl z) ∧ 1 ≤ (TL.tl z).length ∧ (TL.tl z).length ≤ 4 ∧ tokV z = ((PySem.NumText.digitsVal (TL.tl z) : Nat) : Int) ∧ ((TL.tl z).length = 1 ∨ ∃ c r, TL.tl z = c :: r ∧ c ≠ 48) := by
  unfold tokOk at h
  obtain ⟨h1, h2⟩ := Bool.and_eq_true_iff.mp h
  have hl : z.length ≤ 4 := by
    have := of_decide_eq_true h2
    omega
  unfold wholeT at h1
  obtain ⟨h3, h3'⟩ := Bool.and_eq_true_iff.mp h1
  unfold areDig at h3
  obtain ⟨h4, h5⟩ := Bool.and_eq_true_iff.mp h3
  have h4' : 0 < z.length := of_decide_eq_true h4
  have hlen : z.length = (TL.tl z).length := TL.len_tl z
  have ne : z.cps.toList ≠ [] := fun q => by
    have : (TL.tl z).length = 0 := by
      show z.cps.toList.length = 0
      rw [q]
      rfl
    omega
  have all : PySem.NumText.AllDigits z.cps.toList := fun c hc => by
    have q := List.all_eq_true.mp h5 ⟨#[c]⟩ (List.mem_map.mpr ⟨c, hc, rfl⟩)
    exact sign_digit q
  have e := PySem.intText_digits all ne (by omega)
  refine ⟨all, by omega, by omega, ?_, ?_⟩
  · unfold tokV
    rw [e]
    rfl
  · rcases Bool.or_eq_true_iff.mp h3' with q | q
    · left
      have q1 : V.int (z.length : Int) = V.int 1 := of_decide_eq_true q
      have q2 : (z.length : Int) = 1 := V.int.inj q1
      omega
    · right
      have ha : ∃ c r, z.cps.toList = c :: r := by
        cases q : z.cps.toList with
        | nil => exact absurd q ne
        | cons c r => exact ⟨c, r, rfl⟩
      obtain ⟨c, r, ec⟩ := ha
      refine ⟨c, r, ec, fun z48 => ?_⟩
      have eh : headS z = "0" := by
        unfold headS
        rw [ec, z48]
        rfl
      rw [eh, decide_eq_true rfl] at q
      cases q
theorem tl_inj {x y : Str} (h : TL.tl x = TL.tl y) : x = y := by
  cases x with
  | mk a =>
    cases y with
    | mk b =>
      have h' : a.toList = b.toList := h
      have : a = b := Array.toList_inj.mp h'
      rw [this]
theorem tok_range {z : Str} (h : tokOk z = true) : 0 ≤ tokV z ∧ tokV z ≤ 9999 := by
  obtain ⟨ad, l1, l4, ev, _⟩ := tok_digits h
  rw [ev]
  refine ⟨Int.natCast_nonneg _, ?_⟩
  generalize TL.tl z = cs at ad l1 l4
  have b : ∀ c ∈ cs, c ≤ 57 := fun c hc => (ad c hc).2
  match cs, l1, l4, b with
  | [a], _, _, b =>
    have := b a (by simp)
    show ((0 * 10 + (a - 48) : Nat) : Int) ≤ _
    omega
  | [a1, a2], _, _, b =>
    have h1 := b a1 (by simp)
    have h2 := b a2 (by simp)
    show (((0 * 10 + (a1 - 48)) * 10 + (a2 - 48) : Nat) : Int) ≤ _
    omega
  | [a1, a2, a3], _, _, b =>
    have h1 := b a1 (by simp)
    have h2 := b a2 (by simp)
    have h3 := b a3 (by simp)
    show ((((0 * 10 + (a1 - 48)) * 10 + (a2 - 48)) * 10 + (a3 - 48) : Nat) : Int) ≤ _
    omega
  | [a1, a2, a3, a4], _, _, b =>
    have h1 := b a1 (by simp)
    have h2 := b a2 (by simp)
    have h3 := b a3 (by simp)
    have h4 := b a4 (by simp)
    show (((((0 * 10 + (a1 - 48)) * 10 + (a2 - 48)) * 10 + (a3 - 48)) * 10 + (a4 - 48) : Nat) : Int) ≤ _
    omega
  | _ :: _ :: _ :: _ :: _ :: _, _, l4, _ => exact absurd l4 (by simp)
theorem tok_inv {z : Str} (h : tokOk z = true) : strI (tokV z) = z := by
  have hr := tok_range h
  obtain ⟨ad, l1, l4, ev, hd⟩ := tok_digits h
  refine tl_inj ?_
  rw [strI_tl hr.1, ev, Int.toNat_natCast]
  generalize TL.tl z = cs at ad l1 l4 hd
  have e := PySem.NumText.toDigits_digitsVal (cs.length - 1) cs (by omega) ad (by
    rcases hd with h | ⟨c, r, e, hc⟩
    · exact .inl (by omega)
    · refine .inr ⟨c, r, e, ?_⟩
      have := ad c (by rw [e]; exact List.mem_cons_self ..)
      omega)
  unfold TL.numL
  rw [e, List.map_map]
  refine (List.map_congr_left fun c hc => ?_).trans (List.map_id _)
  have hc := ad c hc
  show (Char.ofNat c).toNat = c
  have : ∀ c : Nat, c < 58 → (Char.ofNat c).toNat = c := by decide +kernel
  exact this c (by omega)
theorem told_one {a : Int} (h0 : 0 ≤ a) (h1 : a ≤ 9999) (z : Str) : told (a, a, none) z = decide (V.str z = V.str (strI a)) := by
  by_cases e : z = strI a
  · subst e
    obtain ⟨t1, t2⟩ := tok_strI h0 h1
    unfold told
    rw [t1, t2, decide_eq_true rfl]
    show (true && (decide (a ≤ a) && decide (a ≤ a) && true)) = true
    rw [decide_eq_true (Int.le_refl a)]
    rfl
  · rw [decide_eq_false fun q => e (V.str.inj q)]
    cases ht : tokOk z with
    | false => unfold told; rw [ht]; rfl
    | true =>
      have hi := tok_inv ht
      have ne : ¬ tokV z = a := fun q => e (by rw [← hi, q])
      unfold told
      rw [ht]
      show (true && (decide (a ≤ tokV z) && decide (tokV z ≤ a) && true)) = false
      by_cases l : a ≤ tokV z
      · rw [decide_eq_true l, decide_eq_false (by omega)]
        rfl
      · rw [decide_eq_false l]
        rfl
theorem told_num (z : Str) : told numF z = tokOk z := by
  cases ht : tokOk z with
  | false => unfold told; rw [ht]; rfl
  | true =>
    obtain ⟨h0, h1⟩ := tok_range ht
    unfold told
    rw [ht]
    show (true && (decide (0 ≤ tokV z) && decide (tokV z ≤ 9999) && true)) = true
    rw [decide_eq_true h0, decide_eq_true h1]
    rfl
/-- one of some numbers -/
theorem told_some {f : Fd} {as : List Int} (h : ∀ i : Int, okF f i = true ↔ i ∈ as) (hb : ∀ i ∈ as, 0 ≤ i ∧ i ≤ 9999) (z : Str) : told f z = decide (z ∈ as.map strI) := by
  by_cases e : z ∈ as.map strI
  · rw [decide_eq_true e]
    obtain ⟨a, ha, rfl⟩ := List.mem_map.mp e
    obtain ⟨t1, t2⟩ := tok_strI (hb a ha).1 (hb a ha).2
    unfold told
    rw [t1, t2, (h a).mpr ha]
    rfl
  · rw [decide_eq_false e]
    cases ht : tokOk z with
    | false => unfold told; rw [ht]; rfl
    | true =>
      have hi := tok_inv ht
      unfold told
      rw [ht, Bool.true_and]
      cases q : okF f (tokV z) with
      | false => rfl
      | true => exact absurd (List.mem_map.mpr ⟨_, (h _).mp q, hi⟩) e
end OH
end
section
set_option Elab.async false
set_option linter.all false
set_option maxRecDepth 100000
set_option maxHeartbeats 8000000
/-! _law_is_worth. -/
namespace OH
open PySem PySem.Spec PyProof.Rows L2
def spWorth : Sp := fun vs H Q _ => ∃ z : Str, vs = [.str z] ∧ z.length ≤ 100000 ∧ ∀ H', Same H H' → Q (.bl (tokOk z)) H'
theorem eqv_nilW (l : List PyData) : PyData.eqv (.list l) (.list []) = l.isEmpty := by cases l <;> rfl
def ones {α : Type} (xs : List α) : List V := xs.map fun _ => V.int 1
def onesD {α : Type} (xs : List α) : List PyData := xs.map fun _ => PyData.int 1
theorem ones_dp {α : Type} {K : PySem.W.Frag} {H : Hp} : ∀ xs : List α, DpAll K H (ones xs) (onesD xs)
  | [] => .nil
  | _ :: xs => .cons (.int 1) (ones_dp xs)
theorem onesD_shaped {α : Type} (xs : List α) : SeqAt.shaped (.list (onesD xs)) = true := by
  have h1 : PyData.canLayAll0 (onesD xs) = true := by
    induction xs with
    | nil => rfl
    | cons w ws ih =>
      show (true && PyData.canLayAll0 (onesD ws)) = true
      rw [ih]
      rfl
  have h2 : PyData.depthAll (onesD xs) ≤ 1 := by
    clear h1
    induction xs with
    | nil => exact Nat.zero_le _
    | cons w ws ih =>
      show max (PyData.depth (.int 1)) (PyData.depthAll (onesD ws)) ≤ 1
      exact Nat.max_le.mpr ⟨Nat.zero_le _, ih⟩
  show (PyData.canLayAll0 (onesD xs) && decide (PyData.depthAll (onesD xs) + 1 ≤ 64)) = true
  rw [h1, decide_eq_true (by omega)]
  rfl
theorem in4 : ∀ n : Nat, 1 ≤ n → n ≤ 4 → inV (.int (n : Int)) [.int 1, .int 2, .int 3, .int 4] = true := fun n h1 h2 => by
  match n, h1, h2 with
  | 1, _, _ => rfl
  | 2, _, _ => rfl
  | 3, _, _ => rfl
  | 4, _, _ => rfl
theorem in4' (n : Nat) (h : inV (.int (n : Int)) [.int 1, .int 2, .int 3, .int 4] = true) : 1 ≤ n ∧ n ≤ 4 := by
  simp [inV, eqV] at h
  omega
theorem dig_in (c : Nat) : decide (c ∈ ("0123456789" : Str).cps.toList) = isDig ⟨#[c]⟩ := by
  by_cases hc : c < 128
  · have : ∀ c : Nat, c < 128 → decide (c ∈ ("0123456789" : Str).cps.toList) = isDig ⟨#[c]⟩ := by decide +kernel
    exact this c hc
  · have e : isDig ⟨#[c]⟩ = false := by
      cases q : isDig ⟨#[c]⟩ with
      | true => exact absurd (isDig_small q) hc
      | false => rfl
    rw [e]
    refine decide_eq_false fun h => ?_
    have el : ("0123456789" : Str).cps.toList = [48, 49, 50, 51, 52, 53, 54, 55, 56, 57] := by decide +kernel
    rw [el] at h
    simp only [List.mem_cons, List.not_mem_nil, or_false] at h
    omega
section
variable {P : Program} {w : World} {K : PySem.W.Frag} {mg : Str → Option Value} {base : Heap}
abbrev nWo : List Str := ["word", "sign"]
theorem sc__law_is_worth : FnScope nWo ["word"] (defScope s__law_is_worth) := ⟨rfl, rfl, rfl, by decide +kernel, rfl, by decide +kernel, by decide +kernel⟩
theorem ok__law_is_worth {f : Addr} {fd : FuncData} (F : Fun K "_law_is_worth" "_law_is_worth" s__law_is_worth f fd) (T : Txt K mg) : FnOk P w K mg base CX0 1 f fd ["word"] spWorth := by
  refine F.ok sc__law_is_worth (fun vs H Q E h => ?_) (fun cdv A outer s H vs Q E hr h => ?_)
  · obtain ⟨z, rfl, _⟩ := h
    rfl
  obtain ⟨z, rfl, hz, k⟩ := h
  have nd := sc__law_is_worth.nd
  refine ⟨_, pss_cons (ps_if (PW.pt (pw_or (pt_cmpR op_notIn_seq (pe_callB call_len_str (by rfl) T.nLen (by decide +kernel) (pa_cons (pv 0) pa_nil)) (pe_lst (pa_cons pe_int (pa_cons pe_int (pa_cons pe_int (pa_cons pe_int pa_nil))))) (by rfl)) (pw_or1 (pt_cmpR (op_neD hr.units) (pe_lc (own := [("sign", 1)]) (g := gName 1)   rfl nd (pi_str (pv 0)) (blkOk_by (own := [("sign", 1)]) (N := nWo) (sc := defScope s__law_is_worth) (by decide +kernel)) (fun _ _ _ _ _ => (pg_name (i := 1) nd rfl (Or.inl rfl))) (fun _ _ _ _ _ => pts_one (pt_cmpR op_notIn_sign (pv 1) pe_str (by rfl))) (fun _ _ _ _ _ => pe_int)) (pe_lst pa_nil) (nomark _))))) (pss_one (ps_ret pe_bl)) pss_nil)
      (pss_one (ps_ret (pe_or (pe_cmpR op_eq (pv 0) pe_str (nomark _)) (pe_one (pe_cmpR op_ne (pe_ix ix_str (pv 0) pe_int (fun _ _ => rfl)) pe_str (nomark _)))))), ?_⟩
  refine ⟨_, rfl, z, rfl, (by rw [sizeLine_eq]; omega), ?_⟩
  refine ⟨by show 4 ≤ sizeLine; decide, fun L nL => ?_⟩
  have s1 := sadd (o := .lst [.int 1, .int 2, .int 3, .int 4]) (Same.refl H) nL
  refine ⟨L, _, rfl, .inl (SqL.of upd_same), rfl, rfl, _, rfl, ?_⟩
  generalize upd H L (.lst [.int 1, .int 2, .int 3, .int 4]) = H1 at s1 ⊢
  refine ite2 (fun h => ?_) (fun h => ?_)
  · have e : tokOk z = false := by
      cases q : tokOk z with
      | false => rfl
      | true =>
        obtain ⟨_, l1, l4, _, _⟩ := tok_digits q
        rw [← TL.len_tl] at l1 l4
        have h' : (!inV (V.int (z.length : Int)) [V.int 1, V.int 2, V.int 3, V.int 4]) = true := h
        rw [in4 _ l1 l4] at h'
        cases h'
    have kk := k H1 s1
    rw [e] at kk
    exact iteT kk
  have h' : ¬ (!inV (V.int (z.length : Int)) [V.int 1, V.int 2, V.int 3, V.int 4]) = true := h
  obtain ⟨l1, l4⟩ := in4' z.length (by cases q : inV (V.int (z.length : Int)) [V.int 1, V.int 2, V.int 3, V.int 4] with
    | true => rfl
    | false => rw [q] at h'; exact absurd rfl h')
  refine ⟨_, rfl, z, rfl, fun D nD => ?_⟩
  refine lc_it walk_str (fun i H' => Same H1 H' ∧ H' D = some (.lst (ones ((z.cps.toList.take i).filter fun c => !isDig ⟨#[c]⟩)))) ⟨sadd (Same.refl H1) nD, upd_same⟩ (fun _ _ _ _ => trivial) ?turn ?done
  case turn =>
    rintro i x Ha Hb hi ⟨sa, hD⟩ ⟨rfl, c, hc, rfl⟩
    have hc' : z.cps.toList[i]? = some c := by rw [Array.getElem?_toList]; exact hc
    refine ⟨rfl, _, rfl, c, _, rfl, rfl, _, rfl, ?_⟩
    have tk : ((z.cps.toList.take (i + 1)).filter fun c => !isDig ⟨#[c]⟩) = ((z.cps.toList.take i).filter fun c => !isDig ⟨#[c]⟩) ++ (if (!isDig ⟨#[c]⟩) = true then [c] else []) := by
      rw [List.take_add_one, hc', List.filter_append]
      congr 1
      show List.filter _ [c] = _
      rw [List.filter_cons]
      rfl
    have hdi := dig_in c
    rw [hdi]
    cases q : isDig ⟨#[c]⟩ with
    | true =>
      rw [q] at tk
      rw [if_neg (by decide : ¬ (!true) = true), List.append_nil] at tk
      refine iteF ⟨sa, ?_⟩
      rw [tk]
      exact hD
    | false =>
      rw [q] at tk
      rw [if_pos (by decide : (!false) = true)] at tk
      refine iteT ⟨_, hD, ?_, sout sa nD, ?_⟩
      · have : ((z.cps.toList.take i).filter fun c => !isDig ⟨#[c]⟩).length ≤ (z.cps.toList.take i).length := List.length_filter_le _ _
        rw [List.length_take] at this
        unfold ones
        rw [List.length_map, sizeLine_eq]
        have hh : z.cps.toList.length = z.length := (TL.len_tl z).symm
        omega
      · rw [upd_same, tk]
        unfold ones
        rw [List.map_append]
        rfl
  case done =>
    rintro Ha ⟨sa, hD⟩
    have et : z.cps.toList.take z.cps.size = z.cps.toList := by
      rw [← Array.length_toList]
      exact List.take_length
    rw [et] at hD
    refine ⟨by show 0 ≤ sizeLine; decide, fun e ne => ?_⟩
    have se := sadd (o := .lst []) (Same.refl Ha) ne
    refine ⟨.list (onesD (z.cps.toList.filter fun c => !isDig ⟨#[c]⟩)), .list [], .lst (SqL.of (se _ _ hD)) (ones_dp _), .lst (SqL.of upd_same) .nil, onesD_shaped _, rfl, _, rfl, ?_⟩
    rw [eqv_nilW]
    have s2 := s1.trans (sa.trans se)
    generalize upd Ha e (.lst []) = Hb at s2 ⊢
    have kk := k Hb s2
    have ad : areDig z = (z.cps.toList.filter fun c => !isDig ⟨#[c]⟩).isEmpty := by
      unfold areDig signs
      rw [decide_eq_true (by omega), Bool.true_and, List.all_map]
      generalize z.cps.toList = xs
      induction xs with
      | nil => rfl
      | cons x xs ih =>
        rw [List.all_cons, List.filter_cons]
        cases q : isDig ⟨#[x]⟩ with
        | true =>
          rw [if_neg (by decide : ¬ (!true) = true), ← ih]
          show (isDig ⟨#[x]⟩ && _) = _
          rw [q, Bool.true_and]
        | false =>
          rw [if_pos (by decide : (!false) = true)]
          show (isDig ⟨#[x]⟩ && _) = _
          rw [q]
          rfl
    have en : (onesD (z.cps.toList.filter fun c => !isDig ⟨#[c]⟩)).isEmpty = (z.cps.toList.filter fun c => !isDig ⟨#[c]⟩).isEmpty := by
      unfold onesD
      cases z.cps.toList.filter fun c => !isDig ⟨#[c]⟩ <;> rfl
    rw [en, ← ad]
    have et : tokOk z = (areDig z && (decide (V.int (z.length : Int) = V.int 1) || !decide (V.str (headS z) = V.str "0"))) := by
      unfold tokOk wholeT
      rw [decide_eq_true (by omega : (z.length : Int) ≤ 4), Bool.and_true]
    cases ea : areDig z with
    | false =>
      rw [et, ea] at kk
      exact iteT kk
    | true =>
      rw [et, ea, Bool.true_and] at kk
      refine iteF ?_
      obtain ⟨c, r, ec⟩ : ∃ c r, z.cps.toList = c :: r := by
        cases q : z.cps.toList with
        | nil =>
          have : z.cps.toList.length = z.length := (TL.len_tl z).symm
          rw [q] at this
          have h0 : 0 = z.length := this
          omega
        | cons c r => exact ⟨c, r, rfl⟩
      have eh : headS z = ⟨#[c]⟩ := by
        unfold headS
        rw [ec]
      rw [eh] at kk
      have z0 : ("0" : Str) = ⟨#[48]⟩ := by decide +kernel
      refine ⟨_, rfl, rfl, _, rfl, ?_⟩
      cases e0 : decide (V.str z = V.str "0") with
      | true =>
        have ez : z = "0" := V.str.inj (of_decide_eq_true e0)
        have e1 : decide (V.int (z.length : Int) = V.int 1) = true := by
          rw [ez]
          decide +kernel
        rw [e1, Bool.true_or] at kk
        exact iteT kk
      | false =>
        have e1 : (decide (V.int (z.length : Int) = V.int 1) || !decide (V.str (⟨#[c]⟩ : Str) = V.str "0")) = !decide (V.str (⟨#[c]⟩ : Str) = V.str "0") := by
          by_cases l1' : z.length = 1
          · have hr : r = [] := by
              have : z.cps.toList.length = z.length := (TL.len_tl z).symm
              rw [ec, l1'] at this
              exact List.length_eq_zero_iff.mp (Nat.succ.inj this)
            have ez : z = ⟨#[c]⟩ := tl_inj (by
              show z.cps.toList = [c]
              rw [ec, hr])
            have : decide (V.str (⟨#[c]⟩ : Str) = V.str "0") = false := by rw [← ez]; exact e0
            rw [this]
            exact Bool.or_true _
          · have : decide (V.int (z.length : Int) = V.int 1) = false := decide_eq_false fun q => l1' (by
              have := V.int.inj q
              omega)
            rw [this, Bool.false_or]
        rw [e1] at kk
        refine iteF ?_
        exact ⟨_, rfl, z, 0, c, rfl, rfl, (by rw [sizeLine_eq]; omega), by rw [ec]; exact atI_nat (j := 0) rfl, rfl, kk⟩
end
end OH
end
section
set_option Elab.async false
set_option linter.all false
set_option maxRecDepth 100000
set_option maxHeartbeats 8000000
/-! _law_wrong_word. -/
namespace OH
open PySem PySem.Spec PyProof.Rows L2
/-- the choices of a next word, as a field tells them -/
def ChAt (H : Hp) (v : V) (f : Fd) : Prop := (v = .non ∧ ∀ z, told f z = tokOk z) ∨ ∃ (q : Addr) (ws : List Str), v = .ref q ∧ H q = some (.lst (ws.map V.str)) ∧ ∀ z, told f z = decide (z ∈ ws)
inductive ChsAt (H : Hp) : List V → List Fd → Prop where
  | nil : ChsAt H [] []
  | cons {v : V} {f : Fd} {vs : List V} {fs : List Fd} : ChAt H v f → ChsAt H vs fs → ChsAt H (v :: vs) (f :: fs)
theorem ChAt.same {H H' : Hp} {v : V} {f : Fd} (h : ChAt H v f) (s : Same H H') : ChAt H' v f := by
  rcases h with h | ⟨q, ws, e, a, b⟩
  · exact .inl h
  · exact .inr ⟨q, ws, e, s _ _ a, b⟩
theorem ChsAt.same {H H' : Hp} {vs : List V} {fs : List Fd} (h : ChsAt H vs fs) (s : Same H H') : ChsAt H' vs fs := by
  induction h with
  | nil => exact .nil
  | cons a _ ih => exact .cons (a.same s) ih
theorem ChsAt.len {H : Hp} {vs : List V} {fs : List Fd} (h : ChsAt H vs fs) : vs.length = fs.length := by
  induction h with
  | nil => rfl
  | cons _ _ ih => exact congrArg (· + 1) ih
theorem ChsAt.get {H : Hp} {vs : List V} {fs : List Fd} (h : ChsAt H vs fs) : ∀ {i : Nat} {f : Fd}, fs[i]? = some f → ∃ v, vs[i]? = some v ∧ ChAt H v f := by
  induction h with
  | nil => intro i p e; cases i <;> cases e
  | cons a _ ih =>
    intro i p e
    cases i with
    | zero => exact ⟨_, rfl, by cases e; exact a⟩
    | succ i => exact ih e
/-- for each first word that can stand here the choices of the next words -/
structure SmAt (H : Hp) (d : Addr) (w : Wk) : Prop where
  ex : ∃ kvs : List (Key × V), H d = some (.dK kvs) ∧ ∀ x : Str, (fld w x = none → valV kvs (Sum.inr x) = none) ∧ ∀ fs, fld w x = some fs → ∃ q vs, valV kvs (Sum.inr x) = some (.ref q) ∧ H q = some (.lst vs) ∧ ChsAt H vs fs
theorem SmAt.same {H H' : Hp} {d : Addr} {w : Wk} (h : SmAt H d w) (s : Same H H') : SmAt H' d w := by
  obtain ⟨kvs, a, b⟩ := h.ex
  exact ⟨kvs, s _ _ a, fun x => ⟨(b x).1, fun fs e => by
    obtain ⟨q, vs, h1, h2, h3⟩ := (b x).2 fs e
    exact ⟨q, vs, h1, s _ _ h2, h3.same s⟩⟩⟩
theorem inV_str (z : Str) (ws : List Str) : inV (.str z) (ws.map V.str) = decide (z ∈ ws) := by
  induction ws with
  | nil => rfl
  | cons w ws ih =>
    have e : inV (.str z) ((w :: ws).map V.str) = (eqV (.str w) (.str z) || inV (.str z) (ws.map V.str)) := rfl
    have e2 : eqV (.str w) (.str z) = decide (z = w) := by
      by_cases q : z = w
      · subst q
        simp [eqV]
      · rw [decide_eq_false q]
        simp [eqV]
        exact fun h => q h.symm
    rw [e, e2, ih]
    by_cases q : z = w
    · have m : z ∈ w :: ws := List.mem_cons.mpr (.inl q)
      simp only [decide_eq_true q, decide_eq_true m, Bool.true_or]
    · rw [decide_eq_false q, Bool.false_or]
      have : (z ∈ w :: ws) ↔ z ∈ ws := ⟨fun h => (List.mem_cons.mp h).resolve_left q, List.mem_cons_of_mem _⟩
      simp only [this]
theorem flat_strs (ws : List Str) : (ws.map V.str).all flatV = true := by
  rw [List.all_map, List.all_eq_true]
  intro _ _
  rfl
def spWrongW : Sp := fun vs H Q _ => ∃ (line : Str) (d : Addr) (w : Wk), vs = [.str line, .ref d] ∧ line.length ≤ 90000 ∧ SmAt H d w ∧
  (∀ c, lineP w (headL line) (restL line) = .inl c → ∀ H', Same H H' → Q (.int c) H') ∧ ∀ is, lineP w (headL line) (restL line) = .inr is → ∀ H', Same H H' → Q (.int 0) H'
section
variable {P : Program} {w : World} {K : PySem.W.Frag} {mg : Str → Option Value} {base : Heap}
abbrev nWw : List Str := ["line", "some", "words", "column", "choices", "k", "word", "right", "some_next"]
theorem sc__law_wrong_word : FnScope nWw ["line", "some"] (defScope s__law_wrong_word) := ⟨rfl, rfl, rfl, by decide +kernel, rfl, by decide +kernel, by decide +kernel⟩
theorem ok__law_wrong_word {f : Addr} {fd : FuncData} (F : Fun K "_law_wrong_word" "_law_wrong_word" s__law_wrong_word f fd) (T : Txt K mg) (nEnum : mg "enumerate" = none)
    (DW : DefF P w K mg base CX0 1 "_law_is_worth" ["word"] spWorth) : FnOk P w K mg base CX0 2 f fd ["line", "some"] spWrongW := by
  refine F.ok sc__law_wrong_word (fun vs H Q E h => ?_) (fun cdv A outer s H vs Q E hr h => ?_)
  · obtain ⟨line, d, w, rfl, _⟩ := h
    rfl
  obtain ⟨line, d, w, rfl, hl, hd, k0, k1⟩ := h
  have nd := sc__law_wrong_word.nd
  have hu := hu_of hr
  refine ⟨_, pss_cons (ps_par3 (i := 2) (j := 3) (l := 4) rfl nd rfl rfl rfl (by decide) (by decide) (by decide) rfl rfl rfl (pa_cons (pe_split (pv 0) pe_str) (pa_cons pe_int (pa_cons pe_non pa_nil))) (by rfl))
      (pss_cons (ps_for PassesOwn.never rfl (pi_enum (by rfl) nEnum (pa_cons (pv 2) pa_nil)) (pg_tup (by rfl) (pgs_cons (pg_name (i := 5) nd rfl (Or.inl rfl)) (pgs_cons (pg_name (i := 6) nd rfl (Or.inl rfl)) pgs_nil)))
        (pss_cons (ps_if (pt_cmpR op_eq (pv 5) pe_int (nomark _)) (pss_cons (ps_set (i := 7) nd rfl (Or.inl rfl) (pe_cmp (pc_din hu (pv 6) (pv 1))))
      (pss_one (ps_set (i := 4) nd rfl (Or.inl rfl) (pe_ifExp (pt_val (pv 7)) (pe_dget hu (pv 1) (pv 6) (fun _ _ => rfl)) (pe_lst pa_nil))))) (pss_cons (ps_set (i := 8) nd rfl (Or.inl rfl) (pe_ifExp (pt_cmpR op_le (pv 5) (pe_callB call_len (by rfl) T.nLen (by decide +kernel) (pa_cons (pv 4) pa_nil)) (nomark _)) (pe_ix ix_list (pv 4) (pe_op op_sub (pv 5) pe_int) (fun _ _ => rfl)) (pe_lst pa_nil)))
      (pss_one (ps_set (i := 7) nd rfl (Or.inl rfl) (pe_ifExp (pt_cmpR op_isN (pv 8) pe_non (nomark _)) (pe_cD DW hr rfl pass0 (pa_cons (pv 6) pa_nil)) (pe_cmpR op_in_seq (pv 6) (pv 8) (by rfl)))))))
      (pss_cons (ps_if (pt_not (pt_val (pv 7))) (pss_one (ps_ret (pv 3))) pss_nil)
      (pss_one (ps_set (i := 3) nd rfl (Or.inl rfl) (pe_op op_add (pe_op op_add (pv 3) (pe_callB call_len_str (by rfl) T.nLen (by decide +kernel) (pa_cons (pv 6) pa_nil))) pe_int))))))
      (pss_one (ps_ret (pe_ifExp (pt_cmpR op_eq (pe_callB call_len (by rfl) T.nLen (by decide +kernel) (pa_cons (pv 2) pa_nil)) (pe_op op_add (pe_callB call_len (by rfl) T.nLen (by decide +kernel) (pa_cons (pv 4) pa_nil)) pe_int) (nomark _)) pe_int (pe_op op_add (pe_callB call_len_str (by rfl) T.nLen (by decide +kernel) (pa_cons (pv 0) pa_nil)) pe_int))))), ?_⟩
  refine ⟨_, rfl, ⟨line, rfl⟩, line, " ", rfl, rfl, by decide +kernel, by rw [sizeLine_eq]; omega, fun ww nww => ?_⟩
  obtain ⟨w1, w2⟩ := split_bounds (y := " ") (c := 32) (by decide +kernel) line
  have hc := colW_line line 2
  rw [head_rest] at w1 w2 ⊢
  rw [List.length_cons] at w1
  generalize headL line = z at k0 k1 w1 w2 hc ⊢
  generalize restL line = ws at k0 k1 w1 w2 hc ⊢
  have s1 := sadd (o := .lst ((z :: ws).map V.str)) (Same.refl H) nww
  have hww : upd H ww (.lst ((z :: ws).map V.str)) ww = some (.lst ((z :: ws).map V.str)) := upd_same
  have hd1 := hd.same s1
  generalize upd H ww (.lst ((z :: ws).map V.str)) = H1 at s1 hww hd1 ⊢
  refine ⟨_, _, _, rfl, ?_⟩
  have wk' := walk_enum (K := K) (a := ww) (xs := (z :: ws).map V.str)
  rw [List.length_map] at wk'
  refine ⟨_, rfl, ww, _, rfl, SqL.of hww, ?_⟩
  refine for_it wk' (fun i σ H' => ∃ o5 o6 o7 o8 : Option V, Same H1 H' ∧ ((i = 0 ∧ σ = [some (.str line), some (.ref d), some (.ref ww), some (.int 1), some .non, o5, o6, o7, o8]) ∨
      ∃ (j : Nat) (fs : List Fd) (ch : Addr) (vs : List V) (acc : List Int), i = j + 1 ∧ σ = [some (.str line), some (.ref d), some (.ref ww), some (.int (colW (z.length + 2) (ws.take j) : Nat)), some (.ref ch), o5, o6, o7, o8] ∧
        fld w z = some fs ∧ H' ch = some (.lst vs) ∧ ChsAt H' vs fs ∧ j ≤ fs.length ∧ goW (fs.drop j) (ws.drop j) (colW (z.length + 2) (ws.take j) : Nat) acc = goW fs ws ((z.length : Int) + 2) []))
    ⟨none, none, none, none, Same.refl H1, .inl ⟨rfl, rfl⟩⟩ (fun i σ H' _ h => by obtain ⟨_, _, _, _, h, _⟩ := h; exact SqL.of (h _ _ hww)) ?turn ?done
  case turn =>
    rintro i x σ Ha _ hi ⟨o5, o6, o7, o8, sa, hcase⟩ ⟨T', x1, y1, rfl, nT, rfl, hx1, hy1⟩
    cases hx1
    rcases hcase with ⟨rfl, rfl⟩ | ⟨j, fs, ch, vs, acc, rfl, rfl, hf, hch, hvs, hj, hg⟩
    · cases hy1
      have st := sadd (o := .tup [.int ((0 : Nat) : Int), .str z]) sa nT
      have hT : upd Ha T' (.tup [.int ((0 : Nat) : Int), .str z]) T' = some (.tup [.int ((0 : Nat) : Int), .str z]) := upd_same
      generalize upd Ha T' (.tup [.int ((0 : Nat) : Int), .str z]) = Hb at st hT ⊢
      have hdb := hd1.same st
      obtain ⟨kvs, hkv, hkx⟩ := hdb.ex
      refine ⟨T', _, rfl, SqT.of hT, rfl, _, _, rfl, _, _, rfl, rfl, ?_⟩
      refine ⟨_, rfl, rfl, _, rfl, iteT ?_⟩
      refine ⟨_, rfl, _, rfl, d, valV kvs (Sum.inr z), rfl, DGet.k (k := Sum.inr z) hkv, ?_⟩
      have hz0 : z.length ≤ 90000 := Nat.le_trans (w2 z (List.mem_cons_self ..)) hl
      cases hf : fld w z with
      | none =>
        have hv := (hkx z).1 hf
        rw [hv]
        refine ⟨_, rfl, _, rfl, iteF ?_⟩
        refine ⟨by show 0 ≤ sizeLine; decide, fun e ne => ?_⟩
        refine ⟨_, rfl, _, rfl, iteT ⟨_, rfl, k0 1 ?_ _ (s1.trans (sadd st ne))⟩⟩
        unfold lineP
        rw [hf]
      | some fs =>
        obtain ⟨q, vs, hv, hq, hqs⟩ := (hkx z).2 fs hf
        rw [hv]
        refine ⟨_, rfl, _, rfl, iteT ?_⟩
        refine ⟨_, rfl, _, rfl, d, _, rfl, (by have g := DGet.k (k := Sum.inr z) hkv; rw [hv] at g; exact g), ?_⟩
        refine ⟨_, rfl, _, rfl, iteF ?_⟩
        refine ⟨_, rfl, _, rfl, z, rfl, (by rw [sizeLine_eq]; omega), _, _, rfl, rfl, _, _, rfl, rfl, ?_⟩
        refine ⟨some (.int ((0 : Nat) : Int)), some (.str z), some (.bl true), o8, st, .inr ⟨0, fs, q, vs, [], rfl, ?_, rfl, hq, hqs, Nat.zero_le _, rfl⟩⟩
        have ec : ((colW (z.length + 2) (ws.take 0) : Nat) : Int) = 1 + (z.length : Int) + 1 := by
          show ((z.length + 2 : Nat) : Int) = _
          omega
        rw [ec]
        rfl
    · have hy2 : (ws.map V.str)[j]? = some y1 := hy1
      rw [List.getElem?_map] at hy2
      obtain ⟨u, hu', rfl⟩ := Option.map_eq_some_iff.mp hy2
      have lu : u.length ≤ 90000 := Nat.le_trans (w2 u (List.mem_cons_of_mem _ (List.mem_of_getElem? hu'))) hl
      have hdj : ws.drop j = u :: ws.drop (j + 1) := by
        obtain ⟨h1, h2⟩ := List.getElem?_eq_some_iff.mp hu'
        rw [← h2]
        exact List.drop_eq_getElem_cons h1
      have ct1 : colW (z.length + 2) (ws.take (j + 1)) = colW (z.length + 2) (ws.take j) + (u.length + 1) := by
        rw [List.take_add_one, hu', colW_app]
        rfl
      rw [hdj] at hg
      have eL : lineP w z ws = goW fs ws ((z.length : Int) + 2) [] := by
        unfold lineP
        rw [hf]
      generalize colW (z.length + 2) (ws.take j) = c at hg ct1 ⊢
      have stl := sadd (o := .tup [.int ((j + 1 : Nat) : Int), .str u]) (Same.refl Ha) nT
      have st := sa.trans stl
      have hT : upd Ha T' (.tup [.int ((j + 1 : Nat) : Int), .str u]) T' = some (.tup [.int ((j + 1 : Nat) : Int), .str u]) := upd_same
      have hchb := stl _ _ hch
      have hvsb := hvs.same stl
      generalize upd Ha T' (.tup [.int ((j + 1 : Nat) : Int), .str u]) = Hb at st hT hchb hvsb ⊢
      clear stl hch hvs
      have lvs := hvsb.len
      have ek : decide (V.int ((j + 1 : Nat) : Int) = V.int 0) = false := decide_eq_false fun q => by
        have := V.int.inj q
        omega
      refine ⟨T', _, rfl, SqT.of hT, rfl, _, _, rfl, _, _, rfl, rfl, ?_⟩
      refine ⟨_, rfl, rfl, _, rfl, ?_⟩
      rw [ek]
      refine iteF ?_
      refine ⟨_, rfl, _, rfl, _, _, rfl, .inl ⟨_, SqL.of hchb, rfl⟩, _, _, rfl, rfl, _, rfl, ?_⟩
      refine ite2 (fun hle => ?_) (fun hle => ?_)
      · have hle' : ((j + 1 : Nat) : Int) ≤ (vs.length : Int) := by simpa using hle
        have hjf : j < fs.length := by omega
        obtain ⟨f, hfj⟩ : ∃ f, fs[j]? = some f := ⟨_, List.getElem?_eq_getElem hjf⟩
        obtain ⟨v, hvj, hcv⟩ := hvsb.get hfj
        have hdf : fs.drop j = f :: fs.drop (j + 1) := by
          obtain ⟨q1, q2⟩ := List.getElem?_eq_some_iff.mp hfj
          rw [← q2]
          exact List.drop_eq_getElem_cons q1
        rw [hdf] at hg
        have eg : goW (f :: fs.drop (j + 1)) (u :: ws.drop (j + 1)) (c : Int) acc = if told f u = true then goW (fs.drop (j + 1)) (ws.drop (j + 1)) ((c : Int) + ((u.length : Int) + 1)) (acc ++ [tokV u]) else .inl (c : Int) := rfl
        rw [eg] at hg
        refine ⟨_, rfl, _, rfl, _, _, rfl, rfl, ch, _, _, v, rfl, rfl, SqL.of hchb, (by
          have e : (((j + 1 : Nat) : Int) - 1) = (j : Int) := by omega
          show atI vs (((j + 1 : Nat) : Int) - 1) = some v
          rw [e]
          exact atI_nat hvj), ?_⟩
        rcases hcv with ⟨rfl, ht⟩ | ⟨q, cs', rfl, hq, ht⟩
        · refine ⟨_, rfl, rfl, _, rfl, iteT ⟨_, rfl, u, rfl, by omega, fun Hc sc => ?_⟩⟩
          rw [← ht u]
          have sx := st.trans sc
          refine ⟨_, rfl, _, rfl, ?_⟩
          cases et : told f u with
          | false =>
            rw [et, if_neg Bool.false_ne_true] at hg
            exact iteT ⟨_, rfl, k0 _ (eL.trans hg.symm) _ (s1.trans sx)⟩
          | true =>
            rw [et, if_pos rfl] at hg
            refine iteF ?_
            refine ⟨_, rfl, _, rfl, u, rfl, (by rw [sizeLine_eq]; omega), _, _, rfl, rfl, _, _, rfl, rfl, ?_⟩
            refine ⟨some (.int ((j + 1 : Nat) : Int)), some (.str u), some (.bl true), some .non, sx, .inr ⟨j + 1, fs, ch, vs, acc ++ [tokV u], rfl, ?_, hf, sc _ _ hchb, hvsb.same sc, by omega, ?_⟩⟩
            · have ec : ((colW (z.length + 2) (ws.take (j + 1)) : Nat) : Int) = (c : Int) + (u.length : Int) + 1 := by rw [ct1]; omega
              rw [ec]
              rfl
            · rw [ct1]
              exact hg
        · refine ⟨_, rfl, rfl, _, rfl, iteF ⟨_, rfl, _, rfl, q, _, rfl, .inl (SqL.of hq), rfl, flat_strs _, ?_⟩⟩
          rw [if_neg Bool.false_ne_true, inV_str, ← ht u]
          have sx := st
          refine ⟨_, rfl, _, rfl, ?_⟩
          cases et : told f u with
          | false =>
            rw [et, if_neg Bool.false_ne_true] at hg
            exact iteT ⟨_, rfl, k0 _ (eL.trans hg.symm) _ (s1.trans sx)⟩
          | true =>
            rw [et, if_pos rfl] at hg
            refine iteF ?_
            refine ⟨_, rfl, _, rfl, u, rfl, (by rw [sizeLine_eq]; omega), _, _, rfl, rfl, _, _, rfl, rfl, ?_⟩
            refine ⟨some (.int ((j + 1 : Nat) : Int)), some (.str u), some (.bl true), some (.ref q), sx, .inr ⟨j + 1, fs, ch, vs, acc ++ [tokV u], rfl, ?_, hf, hchb, hvsb, by omega, ?_⟩⟩
            · have ec : ((colW (z.length + 2) (ws.take (j + 1)) : Nat) : Int) = (c : Int) + (u.length : Int) + 1 := by rw [ct1]; omega
              rw [ec]
              rfl
            · rw [ct1]
              exact hg
      · have hle' : ¬ ((j + 1 : Nat) : Int) ≤ (vs.length : Int) := by simpa using hle
        rw [List.drop_eq_nil_of_le (by omega)] at hg
        refine ⟨by show 0 ≤ sizeLine; decide, fun e ne => ?_⟩
        have he : upd Hb e (.lst []) e = some (.lst []) := upd_same
        refine ⟨_, rfl, rfl, _, rfl, iteF ⟨_, rfl, _, rfl, e, [], rfl, .inl (SqL.of he), rfl, rfl, ?_⟩⟩
        exact ⟨_, rfl, _, rfl, iteT ⟨_, rfl, k0 _ (eL.trans hg.symm) _ (s1.trans (sadd st ne))⟩⟩
  case done =>
    rintro σ Hz ⟨o5, o6, o7, o8, sz, hcase⟩
    rcases hcase with ⟨h0, _⟩ | ⟨j, fs, ch, vs, acc, hj1, rfl, hf, hch, hvs, hj, hg⟩
    · cases h0
    · have ej : j = ws.length := by
        have : (z :: ws).length = j + 1 := hj1
        rw [List.length_cons] at this
        omega
      subst ej
      have eL : lineP w z ws = goW fs ws ((z.length : Int) + 2) [] := by
        unfold lineP
        rw [hf]
      rw [List.take_length, List.drop_length, hc] at hg
      have lvs := hvs.len
      refine ⟨_, rfl, _, _, rfl, .inl ⟨_, SqL.of (sz _ _ hww), rfl⟩, _, rfl, _, _, rfl, .inl ⟨_, SqL.of hch, rfl⟩, _, _, rfl, rfl, rfl, _, rfl, ?_⟩
      have sx := s1.trans sz
      refine ite2 (fun q => ?_) (fun q => ?_)
      · have q' : (((z :: ws).map V.str).length : Int) = (vs.length : Int) + 1 := by simpa using q
        rw [List.length_map, List.length_cons] at q'
        rw [List.drop_eq_nil_of_le (by omega)] at hg
        exact k1 acc (eL.trans hg.symm) Hz sx
      · have q' : ¬ (((z :: ws).map V.str).length : Int) = (vs.length : Int) + 1 := by simpa using q
        rw [List.length_map, List.length_cons] at q'
        have hlt : ws.length < fs.length := by omega
        rw [List.drop_eq_getElem_cons hlt] at hg
        have eg : lineP w z ws = .inl ((((line.length + 2 : Nat)) : Int) - 1) := eL.trans hg.symm
        have e2 : ((((line.length + 2 : Nat)) : Int) - 1) = (line.length : Int) + 1 := by omega
        rw [e2] at eg
        exact ⟨_, rfl, line, rfl, (by rw [sizeLine_eq]; omega), _, _, rfl, rfl, k0 _ eg Hz sx⟩
end
end OH
end
section
set_option Elab.async false
set_option linter.all false
set_option maxRecDepth 100000
set_option maxHeartbeats 8000000
/-! The choices of words that a field tells; the tables of first words. -/
namespace OH
open PySem PySem.Spec PyProof.Rows L2
def othL (r : Int) : List Int := ([0, 1, 2, 3, 4, 5] : List Int).filter fun i => !decide (i = r)
def dorL : List Int := [0, 1, 2, 3, 4, 5]
theorem mem_dor (i : Int) : i ∈ dorL ↔ 0 ≤ i ∧ i ≤ 5 := by
  unfold dorL
  simp only [List.mem_cons, List.not_mem_nil, or_false]
  omega
theorem ch_num {H : Hp} : ChAt H .non numF := .inl ⟨rfl, told_num⟩
theorem ch_one {H : Hp} {q : Addr} {a : Int} (h0 : 0 ≤ a) (h1 : a ≤ 9999) (hq : H q = some (.lst [.str (strI a)])) : ChAt H (.ref q) (a, a, none) := by
  refine .inr ⟨q, [strI a], rfl, hq, fun z => ?_⟩
  rw [told_one h0 h1]
  by_cases e : z = strI a
  · have m : z ∈ ([strI a] : List Str) := by rw [e]; exact List.mem_singleton.mpr rfl
    have m2 : V.str z = V.str (strI a) := by rw [e]
    rw [decide_eq_true m, decide_eq_true m2]
  · have m : ¬ z ∈ ([strI a] : List Str) := fun h => e (List.mem_singleton.mp h)
    have m2 : ¬ V.str z = V.str (strI a) := fun h => e (V.str.inj h)
    rw [decide_eq_false m, decide_eq_false m2]
theorem ch_dor {H : Hp} {q : Addr} (hq : H q = some (.lst ((dorL.map strI).map V.str))) : ChAt H (.ref q) dorF :=
  .inr ⟨q, dorL.map strI, rfl, hq, told_some (fun i => by
    rw [mem_dor]
    show (decide (0 ≤ i) && decide (i ≤ 5) && true) = true ↔ _
    rw [Bool.and_true, Bool.and_eq_true, decide_eq_true_eq, decide_eq_true_eq]) (fun i h => by
    have := (mem_dor i).mp h
    omega)⟩
theorem mem_oth (r i : Int) : i ∈ othL r ↔ (0 ≤ i ∧ i ≤ 5) ∧ i ≠ r := by
  unfold othL
  rw [List.mem_filter]
  have := mem_dor i
  unfold dorL at this
  rw [this]
  simp
theorem ch_oth {H : Hp} {q : Addr} {r : Int} (hq : H q = some (.lst (((othL r).map strI).map V.str))) : ChAt H (.ref q) (0, 5, some r) :=
  .inr ⟨q, (othL r).map strI, rfl, hq, told_some (fun i => by
    rw [mem_oth]
    show (decide (0 ≤ i) && decide (i ≤ 5) && !decide (some r = some i)) = true ↔ _
    rw [Bool.and_eq_true, Bool.and_eq_true, decide_eq_true_eq, decide_eq_true_eq, Bool.not_eq_true', decide_eq_false_iff_not]
    constructor
    · intro h
      exact ⟨h.1, fun e => h.2 (by rw [e])⟩
    · intro h
      exact ⟨h.1, fun e => h.2 (Option.some.inj e).symm⟩) (fun i h => by
    have := (mem_oth r i).mp h
    omega)⟩
/-- what stands behind call and deep -/
theorem chs_call {H : Hp} {q1 q2 q3 : Addr} {r : Int} (h0 : 0 ≤ r) (h5 : r ≤ 5) (h1 : H q1 = some (.lst [.str (strI r)])) (h2 : H q2 = some (.lst (((othL r).map strI).map V.str))) (h3 : H q3 = some (.lst ((dorL.map strI).map V.str))) :
    ChsAt H [.ref q1, .ref q2, .ref q3, .non] [(r, r, none), (0, 5, some r), dorF, numF] := .cons (ch_one h0 (by omega) h1) (.cons (ch_oth h2) (.cons (ch_dor h3) (.cons ch_num .nil)))
theorem chs_back {H : Hp} {q1 q2 : Addr} {r a : Int} (h0 : 0 ≤ r) (h5 : r ≤ 5) (a0 : 0 ≤ a) (a5 : a ≤ 5) (h1 : H q1 = some (.lst [.str (strI r)])) (h2 : H q2 = some (.lst [.str (strI a)])) :
    ChsAt H [.ref q1, .ref q2, .non] [(r, r, none), (a, a, none), numF] := .cons (ch_one h0 (by omega) h1) (.cons (ch_one a0 (by omega) h2) (.cons ch_num .nil))
theorem chs_end {H : Hp} {q1 : Addr} {r : Int} (h0 : 0 ≤ r) (h5 : r ≤ 5) (h1 : H q1 = some (.lst [.str (strI r)])) : ChsAt H [.ref q1] [(r, r, none)] := .cons (ch_one h0 (by omega) h1) .nil
theorem chs_done {H : Hp} : ChsAt H [.non] [numF] := .cons ch_num .nil
/-- the fields by words -/
theorem fld_eq {r : Int} {as : List (Int × Int)} {x : Str} : fld ⟨some r, as, false⟩ x =
    if (x = "call" ∧ as.length < 60) ∨ (x = "deep" ∧ 0 < as.length) then some [(r, r, none), (0, 5, some r), dorF, numF]
    else if x = "back" ∧ 0 < as.length then some [(r, r, none), ((as.getLast?.getD (0, 0)).1, (as.getLast?.getD (0, 0)).1, none), numF]
    else if x = "done" ∧ as.length = 0 then some [numF]
    else if x = "end" then some [(r, r, none)] else none := rfl
theorem fld_call {r : Int} {as : List (Int × Int)} : fld ⟨some r, as, false⟩ "call" = if as.length < 60 then some [(r, r, none), (0, 5, some r), dorF, numF] else none := by
  by_cases h : as.length < 60
  · rw [if_pos h]
    rw [fld_eq]
    rw [if_pos (.inl ⟨rfl, h⟩)]
  · rw [if_neg h]
    rw [fld_eq]
    rw [if_neg (fun q => q.elim (fun q => h q.2) fun q => absurd q.1 (by decide +kernel)), if_neg (fun q => absurd q.1 (by decide +kernel)), if_neg (fun q => absurd q.1 (by decide +kernel)), if_neg (by decide +kernel)]
theorem fld_deep {r : Int} {as : List (Int × Int)} : fld ⟨some r, as, false⟩ "deep" = if 0 < as.length then some [(r, r, none), (0, 5, some r), dorF, numF] else none := by
  by_cases h : 0 < as.length
  · rw [if_pos h]
    rw [fld_eq]
    rw [if_pos (.inr ⟨rfl, h⟩)]
  · rw [if_neg h]
    rw [fld_eq]
    rw [if_neg (fun q => q.elim (fun q => absurd q.1 (by decide +kernel)) fun q => h q.2), if_neg (fun q => absurd q.1 (by decide +kernel)), if_neg (fun q => absurd q.1 (by decide +kernel)), if_neg (by decide +kernel)]
theorem fld_back {r : Int} {as : List (Int × Int)} : fld ⟨some r, as, false⟩ "back" = if 0 < as.length then some [(r, r, none), ((as.getLast?.getD (0, 0)).1, (as.getLast?.getD (0, 0)).1, none), numF] else none := by
  by_cases h : 0 < as.length
  · rw [if_pos h]
    rw [fld_eq]
    rw [if_neg (fun q => q.elim (fun q => absurd q.1 (by decide +kernel)) fun q => absurd q.1 (by decide +kernel)), if_pos ⟨rfl, h⟩]
  · rw [if_neg h]
    rw [fld_eq]
    rw [if_neg (fun q => q.elim (fun q => absurd q.1 (by decide +kernel)) fun q => absurd q.1 (by decide +kernel)), if_neg (fun q => h q.2), if_neg (fun q => absurd q.1 (by decide +kernel)), if_neg (by decide +kernel)]
theorem fld_done {r : Int} {as : List (Int × Int)} : fld ⟨some r, as, false⟩ "done" = if as.length = 0 then some [numF] else none := by
  by_cases h : as.length = 0
  · rw [if_pos h]
    rw [fld_eq]
    rw [if_neg (fun q => q.elim (fun q => absurd q.1 (by decide +kernel)) fun q => absurd q.1 (by decide +kernel)), if_neg (fun q => absurd q.1 (by decide +kernel)), if_pos ⟨rfl, h⟩]
  · rw [if_neg h]
    rw [fld_eq]
    rw [if_neg (fun q => q.elim (fun q => absurd q.1 (by decide +kernel)) fun q => absurd q.1 (by decide +kernel)), if_neg (fun q => absurd q.1 (by decide +kernel)), if_neg (fun q => h q.2), if_neg (by decide +kernel)]
theorem fld_end {r : Int} {as : List (Int × Int)} : fld ⟨some r, as, false⟩ "end" = some [(r, r, none)] := by
  rw [fld_eq]
  rw [if_neg (fun q => q.elim (fun q => absurd q.1 (by decide +kernel)) fun q => absurd q.1 (by decide +kernel)), if_neg (fun q => absurd q.1 (by decide +kernel)), if_neg (fun q => absurd q.1 (by decide +kernel)), if_pos rfl]
theorem fld_else {r : Int} {as : List (Int × Int)} {x : Str} (n1 : x ≠ "call") (n2 : x ≠ "deep") (n3 : x ≠ "back") (n4 : x ≠ "done") (n5 : x ≠ "end") : fld ⟨some r, as, false⟩ x = none := by
  rw [fld_eq]
  rw [if_neg (fun q => q.elim (fun q => n1 q.1) fun q => n2 q.1), if_neg (fun q => n3 q.1), if_neg (fun q => n4 q.1), if_neg n5]
theorem fld_over {o : Option Int} {as : List (Int × Int)} {x : Str} : fld ⟨o, as, true⟩ x = none := rfl
theorem fld_first {x : Str} : fld w0 x = if x = "start" then some [numF] else none := rfl
end OH
end
section
set_option Elab.async false
set_option linter.all false
set_option maxRecDepth 100000
set_option maxHeartbeats 8000000
/-! _law_lines_words. -/
namespace OH
open PySem PySem.Spec PyProof.Rows L2
def Pw (H : Hp) (w : Wk) (kvs : List (Key × V)) (x : Str) : Prop := (fld w x = none → valV kvs (Sum.inr x) = none) ∧ ∀ fs, fld w x = some fs → ∃ q vs, valV kvs (Sum.inr x) = some (.ref q) ∧ H q = some (.lst vs) ∧ ChsAt H vs fs
theorem pw_none {H : Hp} {w : Wk} {kvs : List (Key × V)} {x : Str} (h1 : fld w x = none) (h2 : valV kvs (Sum.inr x) = none) : Pw H w kvs x := ⟨fun _ => h2, fun fs e => by rw [h1] at e; cases e⟩
theorem pw_some {H : Hp} {w : Wk} {kvs : List (Key × V)} {x : Str} {fs : List Fd} {q : Addr} {vs : List V} (h1 : fld w x = some fs) (h2 : valV kvs (Sum.inr x) = some (.ref q)) (h3 : H q = some (.lst vs)) (h4 : ChsAt H vs fs) : Pw H w kvs x :=
  ⟨fun e => (by rw [h1] at e; cases e), fun fs' e => by rw [h1] at e; cases e; exact ⟨q, vs, h2, h3, h4⟩⟩
theorem val_miss {x y : Str} {v : V} {kvs : List (Key × V)} (h : x ≠ y) : valV ((Sum.inr y, v) :: kvs : List (Key × V)) (Sum.inr x) = valV kvs (Sum.inr x) := valV_neg fun e => h (by injection e with e; exact e.symm)
theorem sm_over {H : Hp} {d : Addr} {o : Option Int} {as : List (Int × Int)} (hd : H d = some (.dK [])) : SmAt H d ⟨o, as, true⟩ := ⟨[], hd, fun x => ⟨fun _ => rfl, fun fs e => nomatch e⟩⟩
theorem sm_first {H : Hp} {d q : Addr} (hd : H d = some (.dK [(Sum.inr "start", .ref q)])) (hq : H q = some (.lst [.non])) : SmAt H d w0 := ⟨_, hd, fun x => by
  by_cases e : x = "start"
  · subst e
    exact pw_some (w := w0) rfl rfl hq chs_done
  · exact pw_none (w := w0) (by rw [fld_first, if_neg e]) (val_miss e)⟩
theorem sm_mk {H : Hp} {d : Addr} {r : Int} {as : List (Int × Int)} {kvs : List (Key × V)} (hd : H d = some (.dK kvs)) (p1 : Pw H ⟨some r, as, false⟩ kvs "call") (p2 : Pw H ⟨some r, as, false⟩ kvs "deep") (p3 : Pw H ⟨some r, as, false⟩ kvs "back")
    (p4 : Pw H ⟨some r, as, false⟩ kvs "done") (p5 : Pw H ⟨some r, as, false⟩ kvs "end") (pX : ∀ x : Str, x ≠ "call" → x ≠ "deep" → x ≠ "back" → x ≠ "done" → x ≠ "end" → valV kvs (Sum.inr x) = none) : SmAt H d ⟨some r, as, false⟩ := ⟨kvs, hd, fun x => by
  by_cases e1 : x = "call"
  · subst e1; exact p1
  by_cases e2 : x = "deep"
  · subst e2; exact p2
  by_cases e3 : x = "back"
  · subst e3; exact p3
  by_cases e4 : x = "done"
  · subst e4; exact p4
  by_cases e5 : x = "end"
  · subst e5; exact p5
  exact pw_none (fld_else e1 e2 e3 e4 e5) (pX x e1 e2 e3 e4 e5)⟩
theorem keepL {H : Hp} {q d : Addr} {xs : List V} {kvs kvs' : List (Key × V)} (h : H q = some (.lst xs)) (hd : H d = some (.dK kvs)) : upd H d (.dK kvs') q = some (.lst xs) := (upd_ne (ne_of h hd (fun z => nomatch z))).trans h
def spLw : Sp := fun vs H Q _ => ∃ (ctl : Option Int) (al : Addr) (as : List (Int × Int)), vs = [optV ctl, .ref al] ∧ AkAt H al as ∧ as.length ≤ 100000 ∧ (∀ r, ctl = some r → (0 ≤ r ∧ r ≤ 5) ∧ ∀ p ∈ as, (0 ≤ p.1 ∧ p.1 ≤ 5) ∧ 0 ≤ p.2 ∧ p.2 ≤ 5) ∧
  ∀ d H', Same H H' → H d = none → SmAt H' d ⟨ctl, as, decide (ctl = none)⟩ → Q (.ref d) H'
section
variable {P : Program} {w : World} {K : PySem.W.Frag} {mg : Str → Option Value} {base : Heap}
abbrev nLw : List Str := ["control", "asks", "others", "doors", "found", "room", "door"]
theorem sc__law_lines_words : FnScope nLw ["control", "asks"] (defScope s__law_lines_words) := ⟨rfl, rfl, rfl, by decide +kernel, rfl, by decide +kernel, by decide +kernel⟩
theorem ok__law_lines_words {f : Addr} {fd : FuncData} (F : Fun K "_law_lines_words" "_law_lines_words" s__law_lines_words f fd) (T : Txt K mg) : FnOk P w K mg base CX0 1 f fd ["control", "asks"] spLw := by
  refine F.ok sc__law_lines_words (fun vs H Q E h => ?_) (fun cdv A outer s H vs Q E hr h => ?_)
  · obtain ⟨ctl, al, as, rfl, _⟩ := h
    rfl
  obtain ⟨ctl, al, as, rfl, ha, hla, hr05, k⟩ := h
  have nd := sc__law_lines_words.nd
  have hu := hu_of hr
  refine ⟨_, pss_cons (ps_if (pt_cmpR op_isN (pv 0) pe_non (nomark _)) (pss_one (ps_ret pe_dnewK)) pss_nil)
      (pss_cons (ps_par (i := 2) (j := 3) (by rfl) nd rfl rfl (by decide) rfl rfl (pa_cons (pe_lc (own := [("room", 5)]) (g := gName 5)   rfl nd (pi_range1 rfl T.nRange (pa_cons pe_int pa_nil)) (blkOk_by (own := [("room", 5)]) (N := nLw) (sc := defScope s__law_lines_words) (by decide +kernel)) (fun _ _ _ _ _ => (pg_name (i := 5) nd rfl (Or.inl rfl))) (fun _ _ _ _ _ => pts_one (pt_cmpR op_ne (pv 5) (pv 0) (nomark _))) (fun _ _ _ _ _ => (pe_callTy call_str_int (by rfl) T.nStr (by decide +kernel) (pa_cons (pv 5) pa_nil)))) (pa_cons (pe_lc (own := [("door", 6)]) (g := gName 6) (tt := tYes)  rfl nd (pi_range1 rfl T.nRange (pa_cons pe_int pa_nil)) (blkOk_by (own := [("door", 6)]) (N := nLw) (sc := defScope s__law_lines_words) (by decide +kernel)) (fun _ _ _ _ _ => (pg_name (i := 6) nd rfl (Or.inl rfl))) (fun _ _ _ _ _ => pts_nil) (fun _ _ _ _ _ => (pe_callTy call_str_int (by rfl) T.nStr (by decide +kernel) (pa_cons (pv 6) pa_nil)))) pa_nil)) (by rfl))
      (pss_cons (ps_set (i := 4) nd rfl (Or.inl rfl) (pe_disp (pps_cons pe_str (pe_lst (pa_cons (pe_lst (pa_cons (pe_callTy call_str_int (by rfl) T.nStr (by decide +kernel) (pa_cons (pv 0) pa_nil)) pa_nil)) pa_nil)) pps_nil) rfl rfl (by intro z; cases z) (by decide)))
      (pss_cons (ps_if (pt_cmpR op_lt (pe_callB call_len (by rfl) T.nLen (by decide +kernel) (pa_cons (pv 1) pa_nil)) pe_int (nomark _)) (pss_one (ps_dput hu (pv 4) pe_str (pe_lst (pa_cons (pe_lst (pa_cons (pe_callTy call_str_int (by rfl) T.nStr (by decide +kernel) (pa_cons (pv 0) pa_nil)) pa_nil)) (pa_cons (pv 2) (pa_cons (pv 3) (pa_cons pe_non pa_nil))))) rfl)) pss_nil)
      (pss_cons (ps_if (pt_cmpR (op_neD hr.units) (pv 1) (pe_lst pa_nil) (nomark _)) (pss_cons (ps_dput hu (pv 4) pe_str (pe_lst (pa_cons (pe_lst (pa_cons (pe_callTy call_str_int (by rfl) T.nStr (by decide +kernel) (pa_cons (pv 0) pa_nil)) pa_nil)) (pa_cons (pe_lst (pa_cons (pe_callTy call_str_int (by rfl) T.nStr (by decide +kernel) (pa_cons (pe_ix ix_tup (pe_ix ix_list (pv 1) (pe_un un_neg pe_int) (fun _ _ => rfl)) pe_int (fun _ _ => rfl)) pa_nil)) pa_nil)) (pa_cons pe_non pa_nil)))) rfl)
      (pss_one (ps_dput hu (pv 4) pe_str (pe_lst (pa_cons (pe_lst (pa_cons (pe_callTy call_str_int (by rfl) T.nStr (by decide +kernel) (pa_cons (pv 0) pa_nil)) pa_nil)) (pa_cons (pv 2) (pa_cons (pv 3) (pa_cons pe_non pa_nil))))) rfl))) (pss_one (ps_dput hu (pv 4) pe_str (pe_lst (pa_cons pe_non pa_nil)) rfl)))
      (pss_one (ps_ret (pv 4))))))), ?_⟩
  cases ctl with
  | none =>
    refine ⟨_, rfl, rfl, _, rfl, iteT fun dd nd' => ?_⟩
    exact k dd _ (sadd (Same.refl H) nd') nd' (sm_over upd_same)
  | some r =>
  obtain ⟨⟨r0, r5⟩, has⟩ := hr05 r rfl
  clear hr05
  replace k : ∀ d H', Same H H' → H d = none → SmAt H' d ⟨some r, as, false⟩ → Q (.ref d) H' := k
  refine ⟨_, rfl, rfl, _, rfl, iteF ?_⟩
  refine ⟨_, rfl, by decide, by decide, fun D nD => ?_⟩
  refine lc_range (lo := 0) (n := 6) (fun i H' => Same H H' ∧ H' D = some (.lst ((((([0, 1, 2, 3, 4, 5] : List Int).take i).filter fun j => !decide (j = r)).map strI).map V.str))) ⟨sadd (Same.refl H) nD, upd_same⟩ ?turn ?done
  case turn =>
    rintro i Ha hi ⟨sa, hD⟩
    have hx : ([0, 1, 2, 3, 4, 5] : List Int)[i]? = some ((0 : Int) + (i : Nat)) := by
      match i, hi with
      | 0, _ => rfl
      | 1, _ => rfl
      | 2, _ => rfl
      | 3, _ => rfl
      | 4, _ => rfl
      | 5, _ => rfl
    refine ⟨rfl, _, rfl, _, rfl, rfl, _, rfl, ?_⟩
    have hj : (0 : Int) + (i : Nat) = (i : Int) := by omega
    rw [hj] at hx
    have tk : (([0, 1, 2, 3, 4, 5] : List Int).take (i + 1)).filter (fun j => !decide (j = r)) = (([0, 1, 2, 3, 4, 5] : List Int).take i).filter (fun j => !decide (j = r)) ++ (if (!decide ((i : Int) = r)) = true then [(i : Int)] else []) := by
      rw [List.take_add_one, hx, List.filter_append]
      congr 1
      show List.filter _ [(i : Int)] = _
      rw [List.filter_cons]
      rfl
    by_cases e : (i : Int) = r
    · have e2 : decide (V.int ((0 : Int) + (i : Nat)) = V.int r) = true := decide_eq_true (by rw [hj, e])
      rw [decide_eq_true e, if_neg (by decide : ¬ (!true) = true), List.append_nil] at tk
      refine ite2 (fun h => ?_) (fun _ => ?_)
      · exfalso
        have h' : (!decide (V.int ((0 : Int) + (i : Nat)) = V.int r)) = true := h
        rw [e2] at h'
        cases h'
      · refine ⟨sa, ?_⟩
        rw [tk]
        exact hD
    · have e2 : decide (V.int ((0 : Int) + (i : Nat)) = V.int r) = false := decide_eq_false fun q => e (by rw [hj] at q; exact V.int.inj q)
      rw [decide_eq_false e, if_pos (by decide : (!false) = true)] at tk
      refine ite2 (fun _ => ?_) (fun h => ?_)
      · refine ⟨_, rfl, _, rfl, log_small (by omega) (by omega), _, hD, ?_, sout sa nD, ?_⟩
        · rw [List.length_map, List.length_map, sizeLine_eq]
          have := List.length_filter_le (fun j => !decide (j = r)) (([0, 1, 2, 3, 4, 5] : List Int).take i)
          rw [List.length_take] at this
          omega
        · rw [upd_same, tk, List.map_append, List.map_append, hj]
          rfl
      · exfalso
        have h' : ¬ (!decide (V.int ((0 : Int) + (i : Nat)) = V.int r)) = true := h
        rw [e2] at h'
        exact h' rfl
  case done =>
  rintro Ha ⟨sa, hD⟩
  have hD' : Ha D = some (.lst (((othL r).map strI).map V.str)) := hD
  clear hD
  refine ⟨_, rfl, by decide, by decide, fun D2 nD2 => ?_⟩
  refine lc_range (lo := 0) (n := 6) (fun i H' => Same Ha H' ∧ H' D2 = some (.lst (((dorL.take i).map strI).map V.str))) ⟨sadd (Same.refl Ha) nD2, upd_same⟩ ?turn2 ?done2
  case turn2 =>
    rintro i Hx hi ⟨sx, hx2⟩
    have hx : dorL[i]? = some ((0 : Int) + (i : Nat)) := by
      match i, hi with
      | 0, _ => rfl
      | 1, _ => rfl
      | 2, _ => rfl
      | 3, _ => rfl
      | 4, _ => rfl
      | 5, _ => rfl
    refine ⟨rfl, ?_⟩
    unfold tYes
    refine iteT ?_
    refine ⟨_, rfl, _, rfl, log_small (by omega) (by omega), _, hx2, ?_, sout sx nD2, ?_⟩
    · rw [List.length_map, List.length_map, List.length_take, sizeLine_eq]
      omega
    · rw [upd_same, List.take_add_one, hx, List.map_append, List.map_append]
      rfl
  case done2 =>
  rintro Hb ⟨sb, hD2⟩
  have hD2' : Hb D2 = some (.lst ((dorL.map strI).map V.str)) := hD2
  have hDb := sb _ _ hD'
  have s2 := sa.trans sb
  clear hD2 hD' sa sb
  refine ⟨_, _, rfl, ?_⟩
  have ss := s2
  intro d1 nd1
  have nd1H : H d1 = none := s2.free nd1
  have st := sadd (o := .dK []) (Same.refl Hb) nd1
  have hd : upd Hb d1 (.dK []) d1 = some (.dK []) := upd_same
  replace hDb := st _ _ hDb
  replace hD2' := st _ _ hD2'
  have ss := ss.trans st
  generalize upd Hb d1 (.dK []) = J0 at st hd hDb hD2' ss ⊢
  clear st
  refine ⟨_, rfl, r, rfl, log_small r0 (by omega), ?_⟩
  refine ⟨by show 1 ≤ sizeLine; decide, fun o1 no1 => ?_⟩
  have st := sadd (o := .lst [.str (Str.ofString (toString r))]) (Same.refl J0) no1
  have ho : upd J0 o1 (.lst [.str (Str.ofString (toString r))]) o1 = some (.lst [.str (Str.ofString (toString r))]) := upd_same
  replace hDb := st _ _ hDb
  replace hD2' := st _ _ hD2'
  replace hd := st _ _ hd
  have ss := ss.trans st
  generalize upd J0 o1 (.lst [.str (Str.ofString (toString r))]) = J1 at st ho hDb hD2' hd ss ⊢
  clear st
  refine ⟨by show 1 ≤ sizeLine; decide, fun e1 ne1 => ?_⟩
  have st := sadd (o := .lst [.ref o1]) (Same.refl J1) ne1
  have he : upd J1 e1 (.lst [.ref o1]) e1 = some (.lst [.ref o1]) := upd_same
  replace hDb := st _ _ hDb
  replace hD2' := st _ _ hD2'
  replace hd := st _ _ hd
  replace ho := st _ _ ho
  have ss := ss.trans st
  generalize upd J1 e1 (.lst [.ref o1]) = J2 at st he hDb hD2' hd ho ss ⊢
  clear st
  refine ⟨hd, [(Sum.inr "end", .ref e1)], rfl, (by show 1 ≤ 15; decide), ?_⟩
  rw [show (mergeK ([] : List (Key × V)) [(Sum.inr "end", .ref e1)]) = ([(Sum.inr "end", .ref e1)] : List (Key × V)) from rfl]
  replace hDb := keepL (kvs' := [(Sum.inr "end", .ref e1)]) hDb hd
  replace hD2' := keepL (kvs' := [(Sum.inr "end", .ref e1)]) hD2' hd
  replace ho := keepL (kvs' := [(Sum.inr "end", .ref e1)]) ho hd
  replace he := keepL (kvs' := [(Sum.inr "end", .ref e1)]) he hd
  have ss := sout (o := .dK [(Sum.inr "end", .ref e1)]) ss nd1H
  have hd' : upd J2 d1 (.dK [(Sum.inr "end", .ref e1)]) d1 = some (.dK [(Sum.inr "end", .ref e1)]) := upd_same
  generalize upd J2 d1 (.dK [(Sum.inr "end", .ref e1)]) = J3 at hd' hDb hD2' ho he ss ⊢
  clear hd
  have hd := hd'
  clear hd'
  obtain ⟨ps, a1, a2⟩ := ha
  have lps := a2.len
  refine ⟨_, rfl, _, _, rfl, .inl ⟨_, SqL.of (ss _ _ a1), rfl⟩, _, _, rfl, rfl, _, rfl, ?_⟩
  refine ite2 (fun hlt => ?_) (fun hlt => ?_)
  · skip
    refine ⟨_, rfl, r, rfl, log_small r0 (by omega), ?_⟩
    refine ⟨by show 1 ≤ sizeLine; decide, fun q1 nq1 => ?_⟩
    have st := sadd (o := .lst [.str (Str.ofString (toString r))]) (Same.refl J3) nq1
    have hq1 : upd J3 q1 (.lst [.str (Str.ofString (toString r))]) q1 = some (.lst [.str (Str.ofString (toString r))]) := upd_same
    replace hDb := st _ _ hDb
    replace hD2' := st _ _ hD2'
    replace ho := st _ _ ho
    replace he := st _ _ he
    replace hd := st _ _ hd
    have ss := ss.trans st
    generalize upd J3 q1 (.lst [.str (Str.ofString (toString r))]) = J4 at st hq1 hDb hD2' ho he hd ss ⊢
    clear st
    refine ⟨_, rfl, _, rfl, ?_⟩
    refine ⟨by show 4 ≤ sizeLine; decide, fun c1 nc1 => ?_⟩
    have st := sadd (o := .lst [.ref q1, .ref D, .ref D2, .non]) (Same.refl J4) nc1
    have hc1 : upd J4 c1 (.lst [.ref q1, .ref D, .ref D2, .non]) c1 = some (.lst [.ref q1, .ref D, .ref D2, .non]) := upd_same
    replace hDb := st _ _ hDb
    replace hD2' := st _ _ hD2'
    replace ho := st _ _ ho
    replace he := st _ _ he
    replace hd := st _ _ hd
    replace hq1 := st _ _ hq1
    have ss := ss.trans st
    generalize upd J4 c1 (.lst [.ref q1, .ref D, .ref D2, .non]) = J5 at st hc1 hDb hD2' ho he hd hq1 ss ⊢
    clear st
    refine ⟨_, rfl, d1, _, rfl, DPut.k (k := Sum.inr "call") hd (by show 1 < sizeLine; decide), ?_⟩
    rw [show (putK ([(Sum.inr "end", .ref e1)] : List (Key × V)) (Sum.inr "call") (.ref c1)) = ([(Sum.inr "end", .ref e1), (Sum.inr "call", .ref c1)] : List (Key × V)) from rfl]
    replace hDb := keepL (kvs' := [(Sum.inr "end", .ref e1), (Sum.inr "call", .ref c1)]) hDb hd
    replace hD2' := keepL (kvs' := [(Sum.inr "end", .ref e1), (Sum.inr "call", .ref c1)]) hD2' hd
    replace ho := keepL (kvs' := [(Sum.inr "end", .ref e1), (Sum.inr "call", .ref c1)]) ho hd
    replace he := keepL (kvs' := [(Sum.inr "end", .ref e1), (Sum.inr "call", .ref c1)]) he hd
    replace hq1 := keepL (kvs' := [(Sum.inr "end", .ref e1), (Sum.inr "call", .ref c1)]) hq1 hd
    replace hc1 := keepL (kvs' := [(Sum.inr "end", .ref e1), (Sum.inr "call", .ref c1)]) hc1 hd
    have ss := sout (o := .dK [(Sum.inr "end", .ref e1), (Sum.inr "call", .ref c1)]) ss nd1H
    have hd' : upd J5 d1 (.dK [(Sum.inr "end", .ref e1), (Sum.inr "call", .ref c1)]) d1 = some (.dK [(Sum.inr "end", .ref e1), (Sum.inr "call", .ref c1)]) := upd_same
    generalize upd J5 d1 (.dK [(Sum.inr "end", .ref e1), (Sum.inr "call", .ref c1)]) = J6 at hd' hDb hD2' ho he hq1 hc1 ss ⊢
    clear hd
    have hd := hd'
    clear hd'
    refine ⟨_, rfl, by show 0 ≤ sizeLine; decide, fun z1 nz1 => ?_⟩
    have st := sadd (o := .lst []) (Same.refl J6) nz1
    have hz : upd J6 z1 (.lst []) z1 = some (.lst []) := upd_same
    replace hDb := st _ _ hDb
    replace hD2' := st _ _ hD2'
    replace ho := st _ _ ho
    replace he := st _ _ he
    replace hq1 := st _ _ hq1
    replace hc1 := st _ _ hc1
    replace hd := st _ _ hd
    have ss := ss.trans st
    generalize upd J6 z1 (.lst []) = J7 at st hz hDb hD2' ho he hq1 hc1 hd ss ⊢
    clear st
    refine ⟨.list (as.map pairD), .list [], .lst (SqL.of (ss _ _ a1)) (a2.mono fun q xs e => ss _ _ e).dpp, .lst (SqL.of hz) .nil, shaped_pairs as, rfl, _, rfl, ?_⟩
    rw [eqv_nilW]
    have em : (as.map pairD).isEmpty = as.isEmpty := by cases as <;> rfl
    rw [em]
    cases eas : as.isEmpty with
    | false =>
      refine iteT ?_
      have hne : as ≠ [] := fun e => by rw [e] at eas; cases eas
      have h0 : 0 < as.length := List.length_pos_iff.mpr hne
      obtain ⟨L, hL⟩ : ∃ L, as.getLast? = some L := by
        cases q : as.getLast? with
        | none => exact absurd (List.getLast?_eq_none_iff.mp q) hne
        | some L => exact ⟨L, rfl⟩
      have hL2 : as[as.length - 1]? = some L := by
        rw [← List.getLast?_eq_getElem?]
        exact hL
      obtain ⟨pq, hpq, hpt⟩ := a2.get hL2
      obtain ⟨⟨L0, L5⟩, _⟩ := has L (List.mem_of_getElem? hL2)
      have gD : as.getLast?.getD (0, 0) = L := by rw [hL]; rfl
      refine ⟨_, rfl, r, rfl, log_small r0 (by omega), ?_⟩
      refine ⟨by show 1 ≤ sizeLine; decide, fun b1 nb1 => ?_⟩
      have st := sadd (o := .lst [.str (Str.ofString (toString r))]) (Same.refl J7) nb1
      have hb1 : upd J7 b1 (.lst [.str (Str.ofString (toString r))]) b1 = some (.lst [.str (Str.ofString (toString r))]) := upd_same
      replace hz := st _ _ hz
      replace hDb := st _ _ hDb
      replace hD2' := st _ _ hD2'
      replace ho := st _ _ ho
      replace he := st _ _ he
      replace hq1 := st _ _ hq1
      replace hc1 := st _ _ hc1
      replace hd := st _ _ hd
      have ss := ss.trans st
      generalize upd J7 b1 (.lst [.str (Str.ofString (toString r))]) = J40 at st hb1 hz hDb hD2' ho he hq1 hc1 hd ss ⊢
      clear st
      refine ⟨_, rfl, _, rfl, al, _, -1, .ref pq, rfl, rfl, SqL.of (ss _ _ a1), atI_end (by rw [List.length_map, lps, List.getElem?_map, hpq]; rfl), ?_⟩
      refine ⟨pq, _, 0, _, rfl, rfl, SqT.of (ss _ _ hpt), atI_nat (j := 0) rfl, ?_⟩
      refine ⟨L.1, rfl, log_small L0 (by omega), ?_⟩
      refine ⟨by show 1 ≤ sizeLine; decide, fun b2 nb2 => ?_⟩
      have st := sadd (o := .lst [.str (Str.ofString (toString L.1))]) (Same.refl J40) nb2
      have hb2 : upd J40 b2 (.lst [.str (Str.ofString (toString L.1))]) b2 = some (.lst [.str (Str.ofString (toString L.1))]) := upd_same
      replace hz := st _ _ hz
      replace hDb := st _ _ hDb
      replace hD2' := st _ _ hD2'
      replace ho := st _ _ ho
      replace he := st _ _ he
      replace hq1 := st _ _ hq1
      replace hc1 := st _ _ hc1
      replace hd := st _ _ hd
      replace hb1 := st _ _ hb1
      have ss := ss.trans st
      generalize upd J40 b2 (.lst [.str (Str.ofString (toString L.1))]) = J41 at st hb2 hz hDb hD2' ho he hq1 hc1 hd hb1 ss ⊢
      clear st
      refine ⟨by show 3 ≤ sizeLine; decide, fun bk nbk => ?_⟩
      have st := sadd (o := .lst [.ref b1, .ref b2, .non]) (Same.refl J41) nbk
      have hbk : upd J41 bk (.lst [.ref b1, .ref b2, .non]) bk = some (.lst [.ref b1, .ref b2, .non]) := upd_same
      replace hz := st _ _ hz
      replace hDb := st _ _ hDb
      replace hD2' := st _ _ hD2'
      replace ho := st _ _ ho
      replace he := st _ _ he
      replace hq1 := st _ _ hq1
      replace hc1 := st _ _ hc1
      replace hd := st _ _ hd
      replace hb1 := st _ _ hb1
      replace hb2 := st _ _ hb2
      have ss := ss.trans st
      generalize upd J41 bk (.lst [.ref b1, .ref b2, .non]) = J42 at st hbk hz hDb hD2' ho he hq1 hc1 hd hb1 hb2 ss ⊢
      clear st
      refine ⟨_, rfl, d1, _, rfl, DPut.k (k := Sum.inr "back") hd (by show 2 < sizeLine; decide), ?_⟩
      rw [show (putK ([(Sum.inr "end", .ref e1), (Sum.inr "call", .ref c1)] : List (Key × V)) (Sum.inr "back") (.ref bk)) = ([(Sum.inr "end", .ref e1), (Sum.inr "call", .ref c1), (Sum.inr "back", .ref bk)] : List (Key × V)) from rfl]
      replace hz := keepL (kvs' := [(Sum.inr "end", .ref e1), (Sum.inr "call", .ref c1), (Sum.inr "back", .ref bk)]) hz hd
      replace hDb := keepL (kvs' := [(Sum.inr "end", .ref e1), (Sum.inr "call", .ref c1), (Sum.inr "back", .ref bk)]) hDb hd
      replace hD2' := keepL (kvs' := [(Sum.inr "end", .ref e1), (Sum.inr "call", .ref c1), (Sum.inr "back", .ref bk)]) hD2' hd
      replace ho := keepL (kvs' := [(Sum.inr "end", .ref e1), (Sum.inr "call", .ref c1), (Sum.inr "back", .ref bk)]) ho hd
      replace he := keepL (kvs' := [(Sum.inr "end", .ref e1), (Sum.inr "call", .ref c1), (Sum.inr "back", .ref bk)]) he hd
      replace hq1 := keepL (kvs' := [(Sum.inr "end", .ref e1), (Sum.inr "call", .ref c1), (Sum.inr "back", .ref bk)]) hq1 hd
      replace hc1 := keepL (kvs' := [(Sum.inr "end", .ref e1), (Sum.inr "call", .ref c1), (Sum.inr "back", .ref bk)]) hc1 hd
      replace hb1 := keepL (kvs' := [(Sum.inr "end", .ref e1), (Sum.inr "call", .ref c1), (Sum.inr "back", .ref bk)]) hb1 hd
      replace hb2 := keepL (kvs' := [(Sum.inr "end", .ref e1), (Sum.inr "call", .ref c1), (Sum.inr "back", .ref bk)]) hb2 hd
      replace hbk := keepL (kvs' := [(Sum.inr "end", .ref e1), (Sum.inr "call", .ref c1), (Sum.inr "back", .ref bk)]) hbk hd
      have ss := sout (o := .dK [(Sum.inr "end", .ref e1), (Sum.inr "call", .ref c1), (Sum.inr "back", .ref bk)]) ss nd1H
      have hd' : upd J42 d1 (.dK [(Sum.inr "end", .ref e1), (Sum.inr "call", .ref c1), (Sum.inr "back", .ref bk)]) d1 = some (.dK [(Sum.inr "end", .ref e1), (Sum.inr "call", .ref c1), (Sum.inr "back", .ref bk)]) := upd_same
      generalize upd J42 d1 (.dK [(Sum.inr "end", .ref e1), (Sum.inr "call", .ref c1), (Sum.inr "back", .ref bk)]) = J43 at hd' hz hDb hD2' ho he hq1 hc1 hb1 hb2 hbk ss ⊢
      clear hd
      have hd := hd'
      clear hd'
      refine ⟨_, rfl, r, rfl, log_small r0 (by omega), ?_⟩
      refine ⟨by show 1 ≤ sizeLine; decide, fun q2 nq2 => ?_⟩
      have st := sadd (o := .lst [.str (Str.ofString (toString r))]) (Same.refl J43) nq2
      have hq2 : upd J43 q2 (.lst [.str (Str.ofString (toString r))]) q2 = some (.lst [.str (Str.ofString (toString r))]) := upd_same
      replace hz := st _ _ hz
      replace hDb := st _ _ hDb
      replace hD2' := st _ _ hD2'
      replace ho := st _ _ ho
      replace he := st _ _ he
      replace hq1 := st _ _ hq1
      replace hc1 := st _ _ hc1
      replace hb1 := st _ _ hb1
      replace hb2 := st _ _ hb2
      replace hbk := st _ _ hbk
      replace hd := st _ _ hd
      have ss := ss.trans st
      generalize upd J43 q2 (.lst [.str (Str.ofString (toString r))]) = J44 at st hq2 hz hDb hD2' ho he hq1 hc1 hb1 hb2 hbk hd ss ⊢
      clear st
      refine ⟨_, rfl, _, rfl, ?_⟩
      refine ⟨by show 4 ≤ sizeLine; decide, fun c2 nc2 => ?_⟩
      have st := sadd (o := .lst [.ref q2, .ref D, .ref D2, .non]) (Same.refl J44) nc2
      have hc2 : upd J44 c2 (.lst [.ref q2, .ref D, .ref D2, .non]) c2 = some (.lst [.ref q2, .ref D, .ref D2, .non]) := upd_same
      replace hz := st _ _ hz
      replace hDb := st _ _ hDb
      replace hD2' := st _ _ hD2'
      replace ho := st _ _ ho
      replace he := st _ _ he
      replace hq1 := st _ _ hq1
      replace hc1 := st _ _ hc1
      replace hb1 := st _ _ hb1
      replace hb2 := st _ _ hb2
      replace hbk := st _ _ hbk
      replace hd := st _ _ hd
      replace hq2 := st _ _ hq2
      have ss := ss.trans st
      generalize upd J44 c2 (.lst [.ref q2, .ref D, .ref D2, .non]) = J45 at st hc2 hz hDb hD2' ho he hq1 hc1 hb1 hb2 hbk hd hq2 ss ⊢
      clear st
      refine ⟨_, rfl, d1, _, rfl, DPut.k (k := Sum.inr "deep") hd (by show 3 < sizeLine; decide), ?_⟩
      rw [show (putK ([(Sum.inr "end", .ref e1), (Sum.inr "call", .ref c1), (Sum.inr "back", .ref bk)] : List (Key × V)) (Sum.inr "deep") (.ref c2)) = ([(Sum.inr "end", .ref e1), (Sum.inr "call", .ref c1), (Sum.inr "back", .ref bk), (Sum.inr "deep", .ref c2)] : List (Key × V)) from rfl]
      replace hz := keepL (kvs' := [(Sum.inr "end", .ref e1), (Sum.inr "call", .ref c1), (Sum.inr "back", .ref bk), (Sum.inr "deep", .ref c2)]) hz hd
      replace hDb := keepL (kvs' := [(Sum.inr "end", .ref e1), (Sum.inr "call", .ref c1), (Sum.inr "back", .ref bk), (Sum.inr "deep", .ref c2)]) hDb hd
      replace hD2' := keepL (kvs' := [(Sum.inr "end", .ref e1), (Sum.inr "call", .ref c1), (Sum.inr "back", .ref bk), (Sum.inr "deep", .ref c2)]) hD2' hd
      replace ho := keepL (kvs' := [(Sum.inr "end", .ref e1), (Sum.inr "call", .ref c1), (Sum.inr "back", .ref bk), (Sum.inr "deep", .ref c2)]) ho hd
      replace he := keepL (kvs' := [(Sum.inr "end", .ref e1), (Sum.inr "call", .ref c1), (Sum.inr "back", .ref bk), (Sum.inr "deep", .ref c2)]) he hd
      replace hq1 := keepL (kvs' := [(Sum.inr "end", .ref e1), (Sum.inr "call", .ref c1), (Sum.inr "back", .ref bk), (Sum.inr "deep", .ref c2)]) hq1 hd
      replace hc1 := keepL (kvs' := [(Sum.inr "end", .ref e1), (Sum.inr "call", .ref c1), (Sum.inr "back", .ref bk), (Sum.inr "deep", .ref c2)]) hc1 hd
      replace hb1 := keepL (kvs' := [(Sum.inr "end", .ref e1), (Sum.inr "call", .ref c1), (Sum.inr "back", .ref bk), (Sum.inr "deep", .ref c2)]) hb1 hd
      replace hb2 := keepL (kvs' := [(Sum.inr "end", .ref e1), (Sum.inr "call", .ref c1), (Sum.inr "back", .ref bk), (Sum.inr "deep", .ref c2)]) hb2 hd
      replace hbk := keepL (kvs' := [(Sum.inr "end", .ref e1), (Sum.inr "call", .ref c1), (Sum.inr "back", .ref bk), (Sum.inr "deep", .ref c2)]) hbk hd
      replace hq2 := keepL (kvs' := [(Sum.inr "end", .ref e1), (Sum.inr "call", .ref c1), (Sum.inr "back", .ref bk), (Sum.inr "deep", .ref c2)]) hq2 hd
      replace hc2 := keepL (kvs' := [(Sum.inr "end", .ref e1), (Sum.inr "call", .ref c1), (Sum.inr "back", .ref bk), (Sum.inr "deep", .ref c2)]) hc2 hd
      have ss := sout (o := .dK [(Sum.inr "end", .ref e1), (Sum.inr "call", .ref c1), (Sum.inr "back", .ref bk), (Sum.inr "deep", .ref c2)]) ss nd1H
      have hd' : upd J45 d1 (.dK [(Sum.inr "end", .ref e1), (Sum.inr "call", .ref c1), (Sum.inr "back", .ref bk), (Sum.inr "deep", .ref c2)]) d1 = some (.dK [(Sum.inr "end", .ref e1), (Sum.inr "call", .ref c1), (Sum.inr "back", .ref bk), (Sum.inr "deep", .ref c2)]) := upd_same
      generalize upd J45 d1 (.dK [(Sum.inr "end", .ref e1), (Sum.inr "call", .ref c1), (Sum.inr "back", .ref bk), (Sum.inr "deep", .ref c2)]) = J46 at hd' hz hDb hD2' ho he hq1 hc1 hb1 hb2 hbk hq2 hc2 ss ⊢
      clear hd
      have hd := hd'
      clear hd'
      have hlt' : as.length < 60 := by
        have q : ((ps.map V.ref).length : Int) < 60 := by simpa using hlt
        rw [List.length_map, lps] at q
        omega
      exact ⟨_, rfl, k d1 _ ss nd1H (sm_mk hd (pw_some (by rw [fld_call, if_pos hlt']) rfl hc1 (chs_call r0 r5 hq1 hDb hD2')) (pw_some (by rw [fld_deep, if_pos h0]) rfl hc2 (chs_call r0 r5 hq2 hDb hD2')) (pw_some (by rw [fld_back, if_pos h0, gD]) rfl hbk (chs_back r0 r5 L0 L5 hb1 hb2)) (pw_none (by rw [fld_done, if_neg (by omega)]) rfl) (pw_some fld_end rfl he (chs_end r0 r5 ho)) (fun x n1 n2 n3 n4 n5 => by rw [val_miss n5, val_miss n1, val_miss n3, val_miss n2]; rfl))⟩
    | true =>
      refine iteF ?_
      have e0 : as = [] := List.isEmpty_iff.mp eas
      refine ⟨by show 1 ≤ sizeLine; decide, fun n1 nn1 => ?_⟩
      have st := sadd (o := .lst [.non]) (Same.refl J7) nn1
      have hn : upd J7 n1 (.lst [.non]) n1 = some (.lst [.non]) := upd_same
      replace hDb := st _ _ hDb
      replace hD2' := st _ _ hD2'
      replace ho := st _ _ ho
      replace he := st _ _ he
      replace hq1 := st _ _ hq1
      replace hc1 := st _ _ hc1
      replace hd := st _ _ hd
      replace hz := st _ _ hz
      have ss := ss.trans st
      generalize upd J7 n1 (.lst [.non]) = J8 at st hn hDb hD2' ho he hq1 hc1 hd hz ss ⊢
      clear st
      refine ⟨_, rfl, d1, _, rfl, DPut.k (k := Sum.inr "done") hd (by show 2 < sizeLine; decide), ?_⟩
      rw [show (putK ([(Sum.inr "end", .ref e1), (Sum.inr "call", .ref c1)] : List (Key × V)) (Sum.inr "done") (.ref n1)) = ([(Sum.inr "end", .ref e1), (Sum.inr "call", .ref c1), (Sum.inr "done", .ref n1)] : List (Key × V)) from rfl]
      replace hDb := keepL (kvs' := [(Sum.inr "end", .ref e1), (Sum.inr "call", .ref c1), (Sum.inr "done", .ref n1)]) hDb hd
      replace hD2' := keepL (kvs' := [(Sum.inr "end", .ref e1), (Sum.inr "call", .ref c1), (Sum.inr "done", .ref n1)]) hD2' hd
      replace ho := keepL (kvs' := [(Sum.inr "end", .ref e1), (Sum.inr "call", .ref c1), (Sum.inr "done", .ref n1)]) ho hd
      replace he := keepL (kvs' := [(Sum.inr "end", .ref e1), (Sum.inr "call", .ref c1), (Sum.inr "done", .ref n1)]) he hd
      replace hq1 := keepL (kvs' := [(Sum.inr "end", .ref e1), (Sum.inr "call", .ref c1), (Sum.inr "done", .ref n1)]) hq1 hd
      replace hc1 := keepL (kvs' := [(Sum.inr "end", .ref e1), (Sum.inr "call", .ref c1), (Sum.inr "done", .ref n1)]) hc1 hd
      replace hz := keepL (kvs' := [(Sum.inr "end", .ref e1), (Sum.inr "call", .ref c1), (Sum.inr "done", .ref n1)]) hz hd
      replace hn := keepL (kvs' := [(Sum.inr "end", .ref e1), (Sum.inr "call", .ref c1), (Sum.inr "done", .ref n1)]) hn hd
      have ss := sout (o := .dK [(Sum.inr "end", .ref e1), (Sum.inr "call", .ref c1), (Sum.inr "done", .ref n1)]) ss nd1H
      have hd' : upd J8 d1 (.dK [(Sum.inr "end", .ref e1), (Sum.inr "call", .ref c1), (Sum.inr "done", .ref n1)]) d1 = some (.dK [(Sum.inr "end", .ref e1), (Sum.inr "call", .ref c1), (Sum.inr "done", .ref n1)]) := upd_same
      generalize upd J8 d1 (.dK [(Sum.inr "end", .ref e1), (Sum.inr "call", .ref c1), (Sum.inr "done", .ref n1)]) = J9 at hd' hDb hD2' ho he hq1 hc1 hz hn ss ⊢
      clear hd
      have hd := hd'
      clear hd'
      subst e0
      exact ⟨_, rfl, k d1 _ ss nd1H (sm_mk hd (pw_some (by rw [fld_call]; rfl) rfl hc1 (chs_call r0 r5 hq1 hDb hD2')) (pw_none (by rw [fld_deep]; rfl) rfl) (pw_none (by rw [fld_back]; rfl) rfl) (pw_some (by rw [fld_done]; rfl) rfl hn chs_done) (pw_some fld_end rfl he (chs_end r0 r5 ho)) (fun x n1 n2 n3 n4 n5 => by rw [val_miss n5, val_miss n1, val_miss n4]; rfl))⟩
  · skip
    refine ⟨_, rfl, by show 0 ≤ sizeLine; decide, fun z1 nz1 => ?_⟩
    have st := sadd (o := .lst []) (Same.refl J3) nz1
    have hz : upd J3 z1 (.lst []) z1 = some (.lst []) := upd_same
    replace hDb := st _ _ hDb
    replace hD2' := st _ _ hD2'
    replace ho := st _ _ ho
    replace he := st _ _ he
    replace hd := st _ _ hd
    have ss := ss.trans st
    generalize upd J3 z1 (.lst []) = J4 at st hz hDb hD2' ho he hd ss ⊢
    clear st
    refine ⟨.list (as.map pairD), .list [], .lst (SqL.of (ss _ _ a1)) (a2.mono fun q xs e => ss _ _ e).dpp, .lst (SqL.of hz) .nil, shaped_pairs as, rfl, _, rfl, ?_⟩
    rw [eqv_nilW]
    have em : (as.map pairD).isEmpty = as.isEmpty := by cases as <;> rfl
    rw [em]
    cases eas : as.isEmpty with
    | false =>
      refine iteT ?_
      have hne : as ≠ [] := fun e => by rw [e] at eas; cases eas
      have h0 : 0 < as.length := List.length_pos_iff.mpr hne
      obtain ⟨L, hL⟩ : ∃ L, as.getLast? = some L := by
        cases q : as.getLast? with
        | none => exact absurd (List.getLast?_eq_none_iff.mp q) hne
        | some L => exact ⟨L, rfl⟩
      have hL2 : as[as.length - 1]? = some L := by
        rw [← List.getLast?_eq_getElem?]
        exact hL
      obtain ⟨pq, hpq, hpt⟩ := a2.get hL2
      obtain ⟨⟨L0, L5⟩, _⟩ := has L (List.mem_of_getElem? hL2)
      have gD : as.getLast?.getD (0, 0) = L := by rw [hL]; rfl
      refine ⟨_, rfl, r, rfl, log_small r0 (by omega), ?_⟩
      refine ⟨by show 1 ≤ sizeLine; decide, fun b1 nb1 => ?_⟩
      have st := sadd (o := .lst [.str (Str.ofString (toString r))]) (Same.refl J4) nb1
      have hb1 : upd J4 b1 (.lst [.str (Str.ofString (toString r))]) b1 = some (.lst [.str (Str.ofString (toString r))]) := upd_same
      replace hz := st _ _ hz
      replace hDb := st _ _ hDb
      replace hD2' := st _ _ hD2'
      replace ho := st _ _ ho
      replace he := st _ _ he
      replace hd := st _ _ hd
      have ss := ss.trans st
      generalize upd J4 b1 (.lst [.str (Str.ofString (toString r))]) = J60 at st hb1 hz hDb hD2' ho he hd ss ⊢
      clear st
      refine ⟨_, rfl, _, rfl, al, _, -1, .ref pq, rfl, rfl, SqL.of (ss _ _ a1), atI_end (by rw [List.length_map, lps, List.getElem?_map, hpq]; rfl), ?_⟩
      refine ⟨pq, _, 0, _, rfl, rfl, SqT.of (ss _ _ hpt), atI_nat (j := 0) rfl, ?_⟩
      refine ⟨L.1, rfl, log_small L0 (by omega), ?_⟩
      refine ⟨by show 1 ≤ sizeLine; decide, fun b2 nb2 => ?_⟩
      have st := sadd (o := .lst [.str (Str.ofString (toString L.1))]) (Same.refl J60) nb2
      have hb2 : upd J60 b2 (.lst [.str (Str.ofString (toString L.1))]) b2 = some (.lst [.str (Str.ofString (toString L.1))]) := upd_same
      replace hz := st _ _ hz
      replace hDb := st _ _ hDb
      replace hD2' := st _ _ hD2'
      replace ho := st _ _ ho
      replace he := st _ _ he
      replace hd := st _ _ hd
      replace hb1 := st _ _ hb1
      have ss := ss.trans st
      generalize upd J60 b2 (.lst [.str (Str.ofString (toString L.1))]) = J61 at st hb2 hz hDb hD2' ho he hd hb1 ss ⊢
      clear st
      refine ⟨by show 3 ≤ sizeLine; decide, fun bk nbk => ?_⟩
      have st := sadd (o := .lst [.ref b1, .ref b2, .non]) (Same.refl J61) nbk
      have hbk : upd J61 bk (.lst [.ref b1, .ref b2, .non]) bk = some (.lst [.ref b1, .ref b2, .non]) := upd_same
      replace hz := st _ _ hz
      replace hDb := st _ _ hDb
      replace hD2' := st _ _ hD2'
      replace ho := st _ _ ho
      replace he := st _ _ he
      replace hd := st _ _ hd
      replace hb1 := st _ _ hb1
      replace hb2 := st _ _ hb2
      have ss := ss.trans st
      generalize upd J61 bk (.lst [.ref b1, .ref b2, .non]) = J62 at st hbk hz hDb hD2' ho he hd hb1 hb2 ss ⊢
      clear st
      refine ⟨_, rfl, d1, _, rfl, DPut.k (k := Sum.inr "back") hd (by show 1 < sizeLine; decide), ?_⟩
      rw [show (putK ([(Sum.inr "end", .ref e1)] : List (Key × V)) (Sum.inr "back") (.ref bk)) = ([(Sum.inr "end", .ref e1), (Sum.inr "back", .ref bk)] : List (Key × V)) from rfl]
      replace hz := keepL (kvs' := [(Sum.inr "end", .ref e1), (Sum.inr "back", .ref bk)]) hz hd
      replace hDb := keepL (kvs' := [(Sum.inr "end", .ref e1), (Sum.inr "back", .ref bk)]) hDb hd
      replace hD2' := keepL (kvs' := [(Sum.inr "end", .ref e1), (Sum.inr "back", .ref bk)]) hD2' hd
      replace ho := keepL (kvs' := [(Sum.inr "end", .ref e1), (Sum.inr "back", .ref bk)]) ho hd
      replace he := keepL (kvs' := [(Sum.inr "end", .ref e1), (Sum.inr "back", .ref bk)]) he hd
      replace hb1 := keepL (kvs' := [(Sum.inr "end", .ref e1), (Sum.inr "back", .ref bk)]) hb1 hd
      replace hb2 := keepL (kvs' := [(Sum.inr "end", .ref e1), (Sum.inr "back", .ref bk)]) hb2 hd
      replace hbk := keepL (kvs' := [(Sum.inr "end", .ref e1), (Sum.inr "back", .ref bk)]) hbk hd
      have ss := sout (o := .dK [(Sum.inr "end", .ref e1), (Sum.inr "back", .ref bk)]) ss nd1H
      have hd' : upd J62 d1 (.dK [(Sum.inr "end", .ref e1), (Sum.inr "back", .ref bk)]) d1 = some (.dK [(Sum.inr "end", .ref e1), (Sum.inr "back", .ref bk)]) := upd_same
      generalize upd J62 d1 (.dK [(Sum.inr "end", .ref e1), (Sum.inr "back", .ref bk)]) = J63 at hd' hz hDb hD2' ho he hb1 hb2 hbk ss ⊢
      clear hd
      have hd := hd'
      clear hd'
      refine ⟨_, rfl, r, rfl, log_small r0 (by omega), ?_⟩
      refine ⟨by show 1 ≤ sizeLine; decide, fun q2 nq2 => ?_⟩
      have st := sadd (o := .lst [.str (Str.ofString (toString r))]) (Same.refl J63) nq2
      have hq2 : upd J63 q2 (.lst [.str (Str.ofString (toString r))]) q2 = some (.lst [.str (Str.ofString (toString r))]) := upd_same
      replace hz := st _ _ hz
      replace hDb := st _ _ hDb
      replace hD2' := st _ _ hD2'
      replace ho := st _ _ ho
      replace he := st _ _ he
      replace hb1 := st _ _ hb1
      replace hb2 := st _ _ hb2
      replace hbk := st _ _ hbk
      replace hd := st _ _ hd
      have ss := ss.trans st
      generalize upd J63 q2 (.lst [.str (Str.ofString (toString r))]) = J64 at st hq2 hz hDb hD2' ho he hb1 hb2 hbk hd ss ⊢
      clear st
      refine ⟨_, rfl, _, rfl, ?_⟩
      refine ⟨by show 4 ≤ sizeLine; decide, fun c2 nc2 => ?_⟩
      have st := sadd (o := .lst [.ref q2, .ref D, .ref D2, .non]) (Same.refl J64) nc2
      have hc2 : upd J64 c2 (.lst [.ref q2, .ref D, .ref D2, .non]) c2 = some (.lst [.ref q2, .ref D, .ref D2, .non]) := upd_same
      replace hz := st _ _ hz
      replace hDb := st _ _ hDb
      replace hD2' := st _ _ hD2'
      replace ho := st _ _ ho
      replace he := st _ _ he
      replace hb1 := st _ _ hb1
      replace hb2 := st _ _ hb2
      replace hbk := st _ _ hbk
      replace hd := st _ _ hd
      replace hq2 := st _ _ hq2
      have ss := ss.trans st
      generalize upd J64 c2 (.lst [.ref q2, .ref D, .ref D2, .non]) = J65 at st hc2 hz hDb hD2' ho he hb1 hb2 hbk hd hq2 ss ⊢
      clear st
      refine ⟨_, rfl, d1, _, rfl, DPut.k (k := Sum.inr "deep") hd (by show 2 < sizeLine; decide), ?_⟩
      rw [show (putK ([(Sum.inr "end", .ref e1), (Sum.inr "back", .ref bk)] : List (Key × V)) (Sum.inr "deep") (.ref c2)) = ([(Sum.inr "end", .ref e1), (Sum.inr "back", .ref bk), (Sum.inr "deep", .ref c2)] : List (Key × V)) from rfl]
      replace hz := keepL (kvs' := [(Sum.inr "end", .ref e1), (Sum.inr "back", .ref bk), (Sum.inr "deep", .ref c2)]) hz hd
      replace hDb := keepL (kvs' := [(Sum.inr "end", .ref e1), (Sum.inr "back", .ref bk), (Sum.inr "deep", .ref c2)]) hDb hd
      replace hD2' := keepL (kvs' := [(Sum.inr "end", .ref e1), (Sum.inr "back", .ref bk), (Sum.inr "deep", .ref c2)]) hD2' hd
      replace ho := keepL (kvs' := [(Sum.inr "end", .ref e1), (Sum.inr "back", .ref bk), (Sum.inr "deep", .ref c2)]) ho hd
      replace he := keepL (kvs' := [(Sum.inr "end", .ref e1), (Sum.inr "back", .ref bk), (Sum.inr "deep", .ref c2)]) he hd
      replace hb1 := keepL (kvs' := [(Sum.inr "end", .ref e1), (Sum.inr "back", .ref bk), (Sum.inr "deep", .ref c2)]) hb1 hd
      replace hb2 := keepL (kvs' := [(Sum.inr "end", .ref e1), (Sum.inr "back", .ref bk), (Sum.inr "deep", .ref c2)]) hb2 hd
      replace hbk := keepL (kvs' := [(Sum.inr "end", .ref e1), (Sum.inr "back", .ref bk), (Sum.inr "deep", .ref c2)]) hbk hd
      replace hq2 := keepL (kvs' := [(Sum.inr "end", .ref e1), (Sum.inr "back", .ref bk), (Sum.inr "deep", .ref c2)]) hq2 hd
      replace hc2 := keepL (kvs' := [(Sum.inr "end", .ref e1), (Sum.inr "back", .ref bk), (Sum.inr "deep", .ref c2)]) hc2 hd
      have ss := sout (o := .dK [(Sum.inr "end", .ref e1), (Sum.inr "back", .ref bk), (Sum.inr "deep", .ref c2)]) ss nd1H
      have hd' : upd J65 d1 (.dK [(Sum.inr "end", .ref e1), (Sum.inr "back", .ref bk), (Sum.inr "deep", .ref c2)]) d1 = some (.dK [(Sum.inr "end", .ref e1), (Sum.inr "back", .ref bk), (Sum.inr "deep", .ref c2)]) := upd_same
      generalize upd J65 d1 (.dK [(Sum.inr "end", .ref e1), (Sum.inr "back", .ref bk), (Sum.inr "deep", .ref c2)]) = J66 at hd' hz hDb hD2' ho he hb1 hb2 hbk hq2 hc2 ss ⊢
      clear hd
      have hd := hd'
      clear hd'
      have hlt' : ¬ as.length < 60 := by
        have q : ¬ ((ps.map V.ref).length : Int) < 60 := by simpa using hlt
        rw [List.length_map, lps] at q
        omega
      exact ⟨_, rfl, k d1 _ ss nd1H (sm_mk hd (pw_none (by rw [fld_call, if_neg hlt']) rfl) (pw_some (by rw [fld_deep, if_pos h0]) rfl hc2 (chs_call r0 r5 hq2 hDb hD2')) (pw_some (by rw [fld_back, if_pos h0, gD]) rfl hbk (chs_back r0 r5 L0 L5 hb1 hb2)) (pw_none (by rw [fld_done, if_neg (by omega)]) rfl) (pw_some fld_end rfl he (chs_end r0 r5 ho)) (fun x n1 n2 n3 n4 n5 => by rw [val_miss n5, val_miss n3, val_miss n2]; rfl))⟩
    | true =>
      refine iteF ?_
      have e0 : as = [] := List.isEmpty_iff.mp eas
      exfalso
      have q : ¬ ((ps.map V.ref).length : Int) < 60 := by simpa using hlt
      rw [List.length_map, lps, e0] at q
      exact q (by decide)
end
end OH
end
section
set_option Elab.async false
set_option linter.all false
set_option maxRecDepth 100000
set_option maxHeartbeats 8000000
/-! _law_read. -/
namespace OH
open PySem PySem.Spec PyProof.Rows L2
theorem goW_pos : ∀ (fs : List Fd) (ws : List Str) (c : Int) (acc : List Int) (e : Int), 2 ≤ c → goW fs ws c acc = .inl e → 1 ≤ e
  | [], [], _, _, _, _, h => nomatch h
  | _ :: _, [], c, acc, e, hc, h => by
    have : c - 1 = e := Sum.inl.inj h
    omega
  | [], _ :: _, c, acc, e, hc, h => by
    have : c = e := Sum.inl.inj h
    omega
  | f :: fs, w :: ws, c, acc, e, hc, h => by
    have eg : goW (f :: fs) (w :: ws) c acc = if told f w = true then goW fs ws (c + ((w.length : Int) + 1)) (acc ++ [tokV w]) else .inl c := rfl
    rw [eg] at h
    cases ht : told f w with
    | false =>
      rw [ht, if_neg Bool.false_ne_true] at h
      have : c = e := Sum.inl.inj h
      omega
    | true =>
      rw [ht, if_pos rfl] at h
      exact goW_pos fs ws _ _ e (by omega) h
theorem lineP_pos {w : Wk} {z : Str} {ws : List Str} {c : Int} (h : lineP w z ws = .inl c) : 1 ≤ c := by
  unfold lineP at h
  cases hf : fld w z with
  | none =>
    rw [hf] at h
    have : (1 : Int) = c := Sum.inl.inj h
    omega
  | some fs =>
    rw [hf] at h
    exact goW_pos fs ws _ _ c (by omega) h
theorem goW_toks : ∀ (fs : List Fd) (ws : List Str) (c : Int) (acc is : List Int), goW fs ws c acc = .inr is → (∀ u ∈ ws, tokOk u = true) ∧ is = acc ++ ws.map tokV
  | [], [], c, acc, is, h => by
    cases h
    refine ⟨?_, (List.append_nil _).symm⟩
    intro u hu
    cases hu
  | _ :: _, [], c, acc, is, h => nomatch h
  | [], _ :: _, c, acc, is, h => nomatch h
  | f :: fs, w :: ws, c, acc, is, h => by
    have e : goW (f :: fs) (w :: ws) c acc = if told f w = true then goW fs ws (c + ((w.length : Int) + 1)) (acc ++ [tokV w]) else .inl c := rfl
    rw [e] at h
    cases ht : told f w with
    | false =>
      rw [ht, if_neg Bool.false_ne_true] at h
      cases h
    | true =>
      rw [ht, if_pos rfl] at h
      obtain ⟨h1, h2⟩ := goW_toks fs ws _ _ is h
      refine ⟨fun u hu => ?_, by rw [h2, List.append_assoc]; rfl⟩
      rcases List.mem_cons.mp hu with rfl | hu
      · exact told_tok ht
      · exact h1 u hu
theorem lineP_toks {w : Wk} {z : Str} {ws : List Str} {is : List Int} (h : lineP w z ws = .inr is) : (∀ u ∈ ws, tokOk u = true) ∧ is = ws.map tokV := by
  unfold lineP at h
  cases hf : fld w z with
  | none => rw [hf] at h; cases h
  | some fs =>
    rw [hf] at h
    exact goW_toks fs ws _ _ is h
theorem is_ne (x : Crs) : x.is ≠ [] := by cases x <;> exact fun h => nomatch h
theorem can_w0 {x : Crs} (h : canC w0 x = true) : ∃ n, x = .start n := by
  have hn : x.wd ≠ "start" → canC w0 x = false := fun e => by
    unfold canC canF
    rw [fld_first, if_neg e]
  cases x with
  | start n => exact ⟨n, rfl⟩
  | call a b d n => rw [hn (by show ("call" : Str) ≠ "start"; decide +kernel)] at h; cases h
  | back a b n => rw [hn (by show ("back" : Str) ≠ "start"; decide +kernel)] at h; cases h
  | deep a b d n => rw [hn (by show ("deep" : Str) ≠ "start"; decide +kernel)] at h; cases h
  | done n => rw [hn (by show ("done" : Str) ≠ "start"; decide +kernel)] at h; cases h
  | fin a => rw [hn (by show ("end" : Str) ≠ "start"; decide +kernel)] at h; cases h
theorem bh_len (s : Rs) (x : Crs) : (bh s x).2.length ≤ s.2.length + 1 := by
  cases x with
  | call a b d n => show (s.2 ++ [(a, b)]).length ≤ _; rw [List.length_append]; exact Nat.le_refl _
  | back a b n => show (s.2.dropLast).length ≤ _; rw [List.length_dropLast]; omega
  | _ => exact Nat.le_succ _
theorem SmAt.eq {H : Hp} {d : Addr} {w w' : Wk} (h : SmAt H d w) (e : ∀ x, fld w' x = fld w x) : SmAt H d w' := by
  obtain ⟨kvs, a, b⟩ := h.ex
  exact ⟨kvs, a, fun x => by rw [e x]; exact b x⟩
theorem WS.sm {H : Hp} {d : Addr} {w : Wk} {s : Rs} (hw : WS w s) (h : SmAt H d ⟨s.1, s.2, decide (s.1 = none)⟩) : SmAt H d w := by
  rcases hw with ⟨h1, h2⟩ | ⟨r, h1, h2, rfl, h3⟩
  · refine h.eq fun x => ?_
    rw [h2]
    cases w with
    | mk i a o =>
      have : o = true := h1
      subst this
      rfl
  · refine h.eq fun x => ?_
    cases w with
    | mk i a o =>
      have e1 : o = false := h1
      have e2 : i = some r := h2
      subst e1
      subst e2
      rfl
theorem cutA2 {α β : Type} {A R : α → β → Prop} {G : Prop} (h1 : (∀ x y, A x y → R x y) → G) (h2 : ∀ x y, A x y → R x y) : G := h1 h2
def spRead : Sp := fun vs H Q _ => ∃ t : Str, vs = [.str t] ∧ t.length ≤ 90000 ∧ (∀ k c, readT t = .inl (k, c) → ∀ p H', Same H H' → H p = none → H' p = some (.tup [.int (k : Int), .int c]) → Q (.ref p) H') ∧
  ∀ cs, readT t = .inr cs → ∀ l H', Same H H' → H l = none → RwAt H' l cs → Q (.ref l) H'
section
variable {P : Program} {w : World} {K : PySem.W.Frag} {mg : Str → Option Value} {base : Heap}
abbrev nRd : List Str := ["text", "row", "control", "asks", "k", "line", "column", "words", "word"]
theorem sc__law_read : FnScope nRd ["text"] (defScope s__law_read) := ⟨rfl, rfl, rfl, by decide +kernel, rfl, by decide +kernel, by decide +kernel⟩
theorem ok__law_read {f : Addr} {fd : FuncData} (F : Fun K "_law_read" "_law_read" s__law_read f fd) (T : Txt K mg) (nEnum : mg "enumerate" = none)
    (DWW : DefF P w K mg base CX0 3 "_law_wrong_word" ["line", "some"] spWrongW) (DL : DefF P w K mg base CX0 3 "_law_lines_words" ["control", "asks"] spLw) (DB : DefF P w K mg base CX0 3 "_law_behind" ["control", "asks", "crossing"] (spBehind K)) :
    FnOk P w K mg base CX0 4 f fd ["text"] spRead := by
  refine F.ok sc__law_read (fun vs H Q E h => ?_) (fun cdv A outer s H vs Q E hr h => ?_)
  · obtain ⟨t, rfl, _⟩ := h
    rfl
  obtain ⟨t, rfl, ht, k0, k1⟩ := h
  have nd := sc__law_read.nd
  refine ⟨_, pss_cons (ps_par3 (i := 1) (j := 2) (l := 3) rfl nd rfl rfl rfl (by decide) (by decide) (by decide) rfl rfl rfl (pa_cons (pe_lst pa_nil) (pa_cons pe_non (pa_cons (pe_lst pa_nil) pa_nil))) (by rfl))
      (pss_cons (ps_for PassesOwn.never rfl (pi_enum (by rfl) nEnum (pa_cons (pe_split (pv 0) pe_str) pa_nil)) (pg_tup (by rfl) (pgs_cons (pg_name (i := 4) nd rfl (Or.inl rfl)) (pgs_cons (pg_name (i := 5) nd rfl (Or.inl rfl)) pgs_nil)))
        (pss_cons (ps_set (i := 6) nd rfl (Or.inl rfl) (pe_cD DWW hr rfl pass0 (pa_cons (pv 5) (pa_cons (pe_ifExp (pt_cmpR op_eq (pv 4) pe_int (nomark _)) (pe_disp (pps_cons pe_str (pe_lst (pa_cons pe_non pa_nil)) pps_nil) rfl rfl (by intro z; cases z) (by decide)) (pe_cD DL hr rfl pass0 (pa_cons (pv 2) (pa_cons (pv 3) pa_nil)))) pa_nil))))
      (pss_cons (ps_if (pt_cmpR op_gt (pv 6) pe_int (nomark _)) (pss_one (ps_ret (pe_tup (pa_cons (pe_op op_add (pv 4) pe_int) (pa_cons (pv 6) pa_nil))))) pss_nil)
      (pss_cons (ps_set (i := 7) nd rfl (Or.inl rfl) (pe_split (pv 5) pe_str))
      (pss_cons (ps_expr (pe_bm PySem.F.plainAttrs_list PySem.F.slot_list_append PySem.F.type_list_append mt_append (pv 1) (pa_cons (pe_op op_catT (pe_tup (pa_cons (pe_ix ix_list (pv 7) pe_int (fun _ _ => rfl)) pa_nil)) (pe_callTy call_tuple_of (by rfl) T.nTuple (by decide +kernel) (pa_cons (pe_lc (own := [("word", 8)]) (g := gName 8) (tt := tYes)  rfl nd (pi_list (pe_slice sl_list (pv 7) (po_some pe_int) po_none)) (blkOk_by (own := [("word", 8)]) (N := nRd) (sc := defScope s__law_read) (by decide +kernel)) (fun _ _ _ _ _ => (pg_name (i := 8) nd rfl (Or.inl rfl))) (fun _ _ _ _ _ => pts_nil) (fun _ _ _ _ _ => (pe_callTy call_int_str (by rfl) T.nInt (by decide +kernel) (pa_cons (pv 8) pa_nil)))) pa_nil))) pa_nil)))
      (pss_one (ps_asg (pe_cD DB hr rfl pass0 (pa_cons (pv 2) (pa_cons (pv 3) (pa_cons (pe_ix ix_list (pv 1) (pe_un un_neg pe_int) (fun _ _ => rfl)) pa_nil)))) (pg_tup (by rfl) (pgs_cons (pg_name (i := 2) nd rfl (Or.inl rfl)) (pgs_cons (pg_name (i := 3) nd rfl (Or.inl rfl)) pgs_nil))))))))))
      (pss_one (ps_ret (pv 1)))), ?_⟩
  refine ⟨by show 0 ≤ sizeLine; decide, fun R nR => ?_⟩
  have s1 := sadd (o := .lst []) (Same.refl H) nR
  have R1 : RwAt (upd H R (.lst [])) R [] := ⟨[], upd_same, .nil⟩
  generalize upd H R (.lst []) = H1 at s1 R1 ⊢
  refine ⟨by show 0 ≤ sizeLine; decide, fun al nal => ?_⟩
  have st := sadd (o := .lst []) (Same.refl H1) nal
  have A2 : AkAt (upd H1 al (.lst [])) al [] := ⟨[], upd_same, .nil⟩
  have nRal : al ≠ R := by
    obtain ⟨ps, r1, _⟩ := R1
    exact (ne_of_none r1 nal).symm
  have s2 := s1.trans st
  have R2 := R1.same st
  have nalH : H al = none := s1.free nal
  generalize upd H1 al (.lst []) = H2 at s2 A2 R2 ⊢
  clear s1 R1 st nal
  refine ⟨_, _, _, rfl, ?_⟩
  refine ⟨_, rfl, ⟨t, rfl⟩, t, "
", rfl, rfl, by decide +kernel, by rw [sizeLine_eq]; omega, fun L nL => ?_⟩
  obtain ⟨b1, b2⟩ := split_bounds (y := "
") (c := 10) (by decide +kernel) t
  unfold readT at k0 k1
  generalize Txt.split t "
" = ls at b1 b2 k0 k1 ⊢
  have hL : upd H2 L (.lst (ls.map V.str)) L = some (.lst (ls.map V.str)) := upd_same
  have sl := sadd (o := .lst (ls.map V.str)) (Same.refl H2) nL
  have s3 := s2.trans sl
  have A3 := A2.same sl
  have R3 := R2.same sl
  have nLR : L ≠ R := by
    obtain ⟨ps, r1, _⟩ := R2
    exact (ne_of_none r1 nL).symm
  generalize upd H2 L (.lst (ls.map V.str)) = H3 at hL s3 A3 R3 ⊢
  clear s2 A2 R2 sl nL
  have wk' := walk_enum (K := K) (a := L) (xs := ls.map V.str)
  rw [List.length_map] at wk'
  refine ⟨L, _, rfl, SqL.of hL, ?_⟩
  refine for_it wk' (fun i σ H' => ∃ (cs : List Crs) (ctl : Option Int) (al : Addr) (as : List (Int × Int)) (o4 o5 o6 o7 o8 : Option V), σ = [some (.str t), some (.ref R), some (optV ctl), some (.ref al), o4, o5, o6, o7, o8] ∧ Same H H' ∧ H' L = some (.lst (ls.map V.str)) ∧ RwAt H' R cs ∧ AkAt H' al as ∧ al ≠ R ∧ as.length ≤ i ∧ cs.length = i ∧
      rowP i (wk w0 cs) cs (ls.drop i) = rowP 0 w0 [] ls ∧ ((i = 0 ∧ cs = [] ∧ ctl = none ∧ as = []) ∨ (0 < i ∧ WS (wk w0 cs) (ctl, as))))
    ⟨[], none, al, [], none, none, none, none, none, rfl, s3, hL, R3, A3, nRal, Nat.le_refl _, rfl, rfl, .inl ⟨rfl, rfl, rfl, rfl⟩⟩ (fun i σ H' _ h => by obtain ⟨_, _, _, _, _, _, _, _, _, _, _, h, _⟩ := h; exact SqL.of h) ?turn ?done
  case done =>
    rintro σ Hz ⟨cs, ctl, al, as, o4, o5, o6, o7, o8, rfl, sz, hLz, Rz, Az, nz, la, lz, hg, _⟩
    rw [List.drop_length] at hg
    exact ⟨_, rfl, k1 cs hg.symm R Hz sz nR Rz⟩
  case turn =>
    clear hL s3 A3 R3 nRal nalH
    rintro i x σ Ha _ hi ⟨cs, ctl, al, as, o4, o5, o6, o7, o8, rfl, sa, hLa, Ra, Aa, nRal, la, lc, hg, hcase⟩ ⟨T', x1, y1, rfl, nT, rfl, hx1, hy1⟩
    cases hx1
    replace hy1 : (List.map V.str ls)[i]? = some y1 := hy1
    rw [List.getElem?_map] at hy1
    obtain ⟨l, hl, rfl⟩ := Option.map_eq_some_iff.mp hy1
    have ll : l.length ≤ 90000 := Nat.le_trans (b2 l (List.mem_of_getElem? hl)) ht
    have hil : i < ls.length := (List.getElem?_eq_some_iff.mp hl).1
    have hd : ls.drop i = l :: ls.drop (i + 1) := by
      obtain ⟨h1, h2⟩ := List.getElem?_eq_some_iff.mp hl
      rw [← h2]
      exact List.drop_eq_getElem_cons h1
    rw [hd] at hg
    have eg : rowP i (wk w0 cs) cs (l :: ls.drop (i + 1)) = match lineP (wk w0 cs) (headL l) (restL l) with
      | .inl c => .inl (i + 1, c)
      | .inr is => rowP (i + 1) (tk (wk w0 cs) (mkC (headL l) is)) (cs ++ [mkC (headL l) is]) (ls.drop (i + 1)) := rfl
    rw [eg] at hg
    have st := sadd (o := .tup [.int (i : Nat), .str l]) (Same.refl Ha) nT
    have hT : upd Ha T' (.tup [.int (i : Nat), .str l]) T' = some (.tup [.int (i : Nat), .str l]) := upd_same
    have sb := sa.trans st
    have hLb := st _ _ hLa
    have Rb := Ra.same st
    have Ab := Aa.same st
    generalize upd Ha T' (.tup [.int (i : Nat), .str l]) = Hb at hT sb hLb Rb Ab ⊢
    clear st sa hLa Ra Aa nT
    refine ⟨T', _, rfl, SqT.of hT, rfl, _, _, rfl, _, _, rfl, rfl, ?_⟩
    refine ⟨_, rfl, _, rfl, rfl, _, rfl, ?_⟩
    rcases hcase with ⟨hi0, hcs, hct, has0⟩ | ⟨hpos, hws⟩
    · have ek : decide (V.int ((i : Nat) : Int) = V.int 0) = true := decide_eq_true (by rw [hi0]; rfl)
      rw [ek]
      refine iteT ?_
      intro dd ndd
      have hd0 : upd Hb dd (.dK []) dd = some (.dK []) := upd_same
      have sd0 := sadd (o := .dK []) (Same.refl Hb) ndd
      generalize upd Hb dd (.dK []) = Hc0 at hd0 sd0 ⊢
      refine ⟨by show 1 ≤ sizeLine; decide, fun q1 nq1 => ?_⟩
      have st1 := sadd (o := .lst [.non]) (Same.refl Hc0) nq1
      have hq1 : upd Hc0 q1 (.lst [.non]) q1 = some (.lst [.non]) := upd_same
      have hd1 := st1 _ _ hd0
      have sd1 := sd0.trans st1
      generalize upd Hc0 q1 (.lst [.non]) = Hc1 at hq1 hd1 sd1 ⊢
      refine ⟨hd1, [(Sum.inr "start", .ref q1)], rfl, (by show 1 ≤ 15; decide), ?_⟩
      rw [show (mergeK ([] : List (Key × V)) [(Sum.inr "start", .ref q1)]) = ([(Sum.inr "start", .ref q1)] : List (Key × V)) from rfl]
      have hq2 := keepL (kvs' := [(Sum.inr "start", .ref q1)]) hq1 hd1
      have sd2 := sout (o := .dK [(Sum.inr "start", .ref q1)]) sd1 ndd
      have hd2 : upd Hc1 dd (.dK [(Sum.inr "start", .ref q1)]) dd = some (.dK [(Sum.inr "start", .ref q1)]) := upd_same
      have sm : SmAt (upd Hc1 dd (.dK [(Sum.inr "start", .ref q1)])) dd (wk w0 cs) := by
        rw [hcs]
        exact sm_first hd2 hq2
      generalize upd Hc1 dd (.dK [(Sum.inr "start", .ref q1)]) = Hc2 at sd2 sm ⊢
      have sc := sd2
      refine ⟨l, dd, wk w0 cs, rfl, ll, sm, fun c e Hd sd => ?_, fun is e Hd sd => ?_⟩
      · rw [e] at hg
        have hc1 := lineP_pos e
        have sx := sb.trans (sc.trans sd)
        refine ⟨_, rfl, _, _, rfl, rfl, _, rfl, ?_⟩
        refine ite2 (fun _ => ?_) (fun h => ?_)
        · refine ⟨_, rfl, _, _, rfl, rfl, _, rfl, (by show 2 ≤ sizeLine; decide), fun p np => ?_⟩
          exact k0 (i + 1) c hg.symm p _ (sadd sx np) (sx.none np) upd_same
        · exfalso
          have h' : ¬ (c : Int) > 0 := by simpa using h
          omega
      · rw [e] at hg
        replace hg : rowP (i + 1) (tk (wk w0 cs) (mkC (headL l) is)) (cs ++ [mkC (headL l) is]) (ls.drop (i + 1)) = rowP 0 w0 [] ls := hg
        obtain ⟨e1, e2, e3⟩ := lineP_ok e
        obtain ⟨tk1, tk2⟩ := lineP_toks e
        generalize mkC (headL l) is = x at hg e1 e2 e3
        have scd := sc.trans sd
        have sx := sb.trans scd
        have hLd := scd _ _ hLb
        have Rd := Rb.same scd
        have Ad := Ab.same scd
        refine ⟨_, rfl, _, _, rfl, rfl, _, rfl, iteF ?_⟩
        refine ⟨_, rfl, ⟨l, rfl⟩, l, " ", rfl, rfl, by decide +kernel, by rw [sizeLine_eq]; omega, fun ww nww => ?_⟩
        obtain ⟨w1, w2⟩ := split_bounds (y := " ") (c := 32) (by decide +kernel) l
        rw [head_rest] at w1 ⊢
        rw [List.length_cons] at w1
        have st := sadd (o := .lst ((headL l :: restL l).map V.str)) (Same.refl Hd) nww
        have hww : upd Hd ww (.lst ((headL l :: restL l).map V.str)) ww = some (.lst ((headL l :: restL l).map V.str)) := upd_same
        replace sx := sx.trans st
        replace hLd := st _ _ hLd
        replace Rd := Rd.same st
        replace Ad := Ad.same st
        generalize upd Hd ww (.lst ((headL l :: restL l).map V.str)) = He at st hww sx hLd Rd Ad ⊢
        clear st
        obtain ⟨ps, r1, r2⟩ := id Rd
        refine ⟨_, rfl, .inl ⟨rfl, _, SqL.of r1⟩, ?_⟩
        refine ⟨_, rfl, ww, _, 0, _, rfl, rfl, SqL.of hww, (atI_nat (j := 0) rfl), (by show 1 ≤ sizeLine; decide), fun t1 nt1 => ?_⟩
        have st := sadd (o := .tup [.str (headL l)]) (Same.refl He) nt1
        have ht1 : upd He t1 (.tup [.str (headL l)]) t1 = some (.tup [.str (headL l)]) := upd_same
        replace sx := sx.trans st
        replace hLd := st _ _ hLd
        replace Rd := Rd.same st
        replace Ad := Ad.same st
        replace hww := st _ _ hww
        generalize upd He t1 (.tup [.str (headL l)]) = Hf at st ht1 sx hLd Rd Ad hww ⊢
        clear st
        refine ⟨_, rfl, _, rfl, ww, _, rfl, SqL.of hww, fun sl nsl => ?_⟩
        have ec : cutV (List.map V.str (headL l :: restL l)) (some 1) none = (restL l).map V.str := cut_tail _ _
        rw [ec]
        have st := sadd (o := .lst ((restL l).map V.str)) (Same.refl Hf) nsl
        have hsl : upd Hf sl (.lst ((restL l).map V.str)) sl = some (.lst ((restL l).map V.str)) := upd_same
        replace sx := sx.trans st
        replace hLd := st _ _ hLd
        replace Rd := Rd.same st
        replace Ad := Ad.same st
        replace ht1 := st _ _ ht1
        generalize upd Hf sl (.lst ((restL l).map V.str)) = Hg at st hsl sx hLd Rd Ad ht1 ⊢
        clear st
        refine ⟨sl, rfl, ⟨_, SqL.of hsl⟩, fun D nD => ?_⟩
        refine lc_list (K := K) (a := sl) (xs := (restL l).map V.str) (fun i H' => Same Hg H' ∧ H' D = some (.lst (((restL l).take i).map fun y => V.int (tokV y)))) ⟨sadd (Same.refl Hg) nD, upd_same⟩ (fun i H' _ ⟨s, _⟩ => SqL.of (s _ _ hsl)) ?_ ?_
        · rintro j y Hx hx ⟨sx', hDx⟩
          rw [List.getElem?_map] at hx
          obtain ⟨u, hu0, rfl⟩ := Option.map_eq_some_iff.mp hx
          obtain ⟨ti, tl⟩ := tok_int (tk1 u (List.mem_of_getElem? hu0))
          refine ⟨rfl, ?_⟩
          unfold tYes
          refine iteT ?_
          refine ⟨_, rfl, u, _, rfl, ti, by omega, _, hDx, ?_, sout sx' nD, ?_⟩
          · rw [List.length_map, List.length_take, sizeLine_eq]
            omega
          · rw [upd_same, List.take_add_one, hu0, List.map_append]
            rfl
        rintro Hh ⟨sh, hDh⟩
        rw [List.length_map, List.take_length] at hDh
        have hDi : Hh D = some (.lst (is.map V.int)) := by
          rw [hDh, tk2, List.map_map]
          rfl
        refine ⟨D, _, rfl, .inl ⟨SqL.of hDi, fun t2 nt2 => ?_⟩⟩
        have st := sadd (o := .tup (is.map V.int)) (Same.refl Hh) nt2
        have ht2 : upd Hh t2 (.tup (is.map V.int)) t2 = some (.tup (is.map V.int)) := upd_same
        have sgi := sh.trans st
        replace sx := sx.trans sgi
        replace hLd := sgi _ _ hLd
        replace Rd := Rd.same sgi
        replace Ad := Ad.same sgi
        replace ht1 := sgi _ _ ht1
        generalize upd Hh t2 (.tup (is.map V.int)) = Hi at sgi st ht2 sx hLd Rd Ad ht1 ⊢
        clear st sgi
        have nis : is.map V.int ≠ [] := fun q => by
          have : x.is = [] := by rw [e2]; exact List.map_eq_nil_iff.mp q
          exact is_ne x this
        have lis : is.length ≤ 4 := by rw [← e2]; exact is_le4 x
        refine ⟨t1, t2, _, _, rfl, rfl, SqT.of ht1, SqT.of ht2, (fun q => nomatch q), (by rw [List.length_map, sizeLine_eq]; show 1 + _ ≤ _; omega), fun q => absurd q nis, fun _ t3 nt3 => ?_⟩
        have st := sadd (o := .tup ([.str (headL l)] ++ is.map V.int)) (Same.refl Hi) nt3
        have ht3 : upd Hi t3 (.tup ([.str (headL l)] ++ is.map V.int)) t3 = some (.tup x.vs) := by
          rw [upd_same, Crs.vs_eq, e1, e2]
          rfl
        replace sx := sx.trans st
        replace hLd := st _ _ hLd
        replace Rd := Rd.same st
        replace Ad := Ad.same st
        generalize upd Hi t3 (.tup ([.str (headL l)] ++ is.map V.int)) = Hj at st ht3 sx hLd Rd Ad ⊢
        clear st
        obtain ⟨ps', q1, q2, q3, q4⟩ := Rd.add ht3
        refine ⟨R, _, _, rfl, rfl, q1, (by rw [List.length_map, q2, sizeLine_eq]; omega), ?_⟩
        have sk := sout (o := .lst (ps'.map V.ref ++ [.ref t3])) sx nR
        have hLk := (upd_ne (o := .lst (ps'.map V.ref ++ [.ref t3])) nLR).trans hLd
        have Ak : AkAt (upd Hj R (.lst (ps'.map V.ref ++ [.ref t3]))) al as := by
          obtain ⟨as_, a1, a2⟩ := Ad
          exact ⟨as_, (upd_ne nRal).trans a1, a2.mono q4⟩
        generalize upd Hj R (.lst (ps'.map V.ref ++ [.ref t3])) = Hk at q3 hLk sk Ak ⊢
        obtain ⟨pk, w1', w2'⟩ := id q3
        obtain ⟨t3', ht', ht3'⟩ := w2'.get (i := cs.length) (x := x) (by rw [List.getElem?_append_right (Nat.le_refl _), Nat.sub_self]; rfl)
        have lk := w2'.len
        rw [List.length_append] at lk
        refine ⟨_, rfl, _, rfl, _, rfl, _, rfl, R, _, -1, .ref t3', rfl, rfl, SqL.of w1', atI_end (by rw [List.length_map, lk, List.getElem?_map, show cs.length + [x].length - 1 = cs.length from rfl, ht']; rfl), ?_⟩
        refine ⟨_, al, t3', ctl, as, x, rfl, Ak, ht3', by omega, fun u al' Hl slk nu nal' hu ak => ?_⟩
        refine ⟨u, _, rfl, SqT.of hu, rfl, _, _, rfl, _, _, rfl, rfl, ?_⟩
        have bl := bh_len (ctl, as) x
        have bl' : (bh (ctl, as) x).2.length ≤ as.length + 1 := bl
        refine ⟨cs ++ [x], (bh (ctl, as) x).1, al', (bh (ctl, as) x).2, _, _, _, _, _, rfl, sk.trans slk, slk _ _ hLk, q3.same slk, ak, ?_, by omega, by rw [List.length_append, lc]; rfl, by rw [wk_snoc]; exact hg, .inr ⟨Nat.succ_pos _, ?_⟩⟩
        · rcases nal' with h | h
          · rw [h]
            exact nRal
          · exact (ne_of_none w1' h).symm
        · rw [wk_snoc]
          rw [hcs] at e3 ⊢
          obtain ⟨n, rfl⟩ := can_w0 e3
          rw [hct, has0]
          exact ws_start n
    · have ek : decide (V.int ((i : Nat) : Int) = V.int 0) = false := decide_eq_false fun q => by
        have := V.int.inj q
        omega
      rw [ek]
      refine iteF ?_
      refine ⟨_, rfl, _, rfl, ctl, al, as, rfl, Ab, by omega, fun r hr' => ?_, fun d Hc sc nd' hsm => ?_⟩
      · rcases hws with ⟨_, h2⟩ | ⟨r', _, _, h3, h4⟩
        · have : ctl = none := h2
          rw [this] at hr'
          cases hr'
        · have e3 : (ctl, as) = (some r', (wk w0 cs).asks) := h3
          injection e3 with e4 e5
          rw [e4] at hr'
          cases hr'
          rw [e5]
          exact ⟨h4.rng, h4.mem⟩
      · have sm := hws.sm hsm
        refine ⟨l, d, wk w0 cs, rfl, ll, sm, fun c e Hd sd => ?_, fun is e Hd sd => ?_⟩
        · rw [e] at hg
          have hc1 := lineP_pos e
          have sx := sb.trans (sc.trans sd)
          refine ⟨_, rfl, _, _, rfl, rfl, _, rfl, ?_⟩
          refine ite2 (fun _ => ?_) (fun h => ?_)
          · refine ⟨_, rfl, _, _, rfl, rfl, _, rfl, (by show 2 ≤ sizeLine; decide), fun p np => ?_⟩
            exact k0 (i + 1) c hg.symm p _ (sadd sx np) (sx.none np) upd_same
          · exfalso
            have h' : ¬ (c : Int) > 0 := by simpa using h
            omega
        · rw [e] at hg
          replace hg : rowP (i + 1) (tk (wk w0 cs) (mkC (headL l) is)) (cs ++ [mkC (headL l) is]) (ls.drop (i + 1)) = rowP 0 w0 [] ls := hg
          obtain ⟨e1, e2, e3⟩ := lineP_ok e
          obtain ⟨tk1, tk2⟩ := lineP_toks e
          generalize mkC (headL l) is = x at hg e1 e2 e3
          have scd := sc.trans sd
          have sx := sb.trans scd
          have hLd := scd _ _ hLb
          have Rd := Rb.same scd
          have Ad := Ab.same scd
          refine ⟨_, rfl, _, _, rfl, rfl, _, rfl, iteF ?_⟩
          refine ⟨_, rfl, ⟨l, rfl⟩, l, " ", rfl, rfl, by decide +kernel, by rw [sizeLine_eq]; omega, fun ww nww => ?_⟩
          obtain ⟨w1, w2⟩ := split_bounds (y := " ") (c := 32) (by decide +kernel) l
          rw [head_rest] at w1 ⊢
          rw [List.length_cons] at w1
          have st := sadd (o := .lst ((headL l :: restL l).map V.str)) (Same.refl Hd) nww
          have hww : upd Hd ww (.lst ((headL l :: restL l).map V.str)) ww = some (.lst ((headL l :: restL l).map V.str)) := upd_same
          replace sx := sx.trans st
          replace hLd := st _ _ hLd
          replace Rd := Rd.same st
          replace Ad := Ad.same st
          generalize upd Hd ww (.lst ((headL l :: restL l).map V.str)) = He at st hww sx hLd Rd Ad ⊢
          clear st
          obtain ⟨ps, r1, r2⟩ := id Rd
          refine ⟨_, rfl, .inl ⟨rfl, _, SqL.of r1⟩, ?_⟩
          refine ⟨_, rfl, ww, _, 0, _, rfl, rfl, SqL.of hww, (atI_nat (j := 0) rfl), (by show 1 ≤ sizeLine; decide), fun t1 nt1 => ?_⟩
          have st := sadd (o := .tup [.str (headL l)]) (Same.refl He) nt1
          have ht1 : upd He t1 (.tup [.str (headL l)]) t1 = some (.tup [.str (headL l)]) := upd_same
          replace sx := sx.trans st
          replace hLd := st _ _ hLd
          replace Rd := Rd.same st
          replace Ad := Ad.same st
          replace hww := st _ _ hww
          generalize upd He t1 (.tup [.str (headL l)]) = Hf at st ht1 sx hLd Rd Ad hww ⊢
          clear st
          refine ⟨_, rfl, _, rfl, ww, _, rfl, SqL.of hww, fun sl nsl => ?_⟩
          have ec : cutV (List.map V.str (headL l :: restL l)) (some 1) none = (restL l).map V.str := cut_tail _ _
          rw [ec]
          have st := sadd (o := .lst ((restL l).map V.str)) (Same.refl Hf) nsl
          have hsl : upd Hf sl (.lst ((restL l).map V.str)) sl = some (.lst ((restL l).map V.str)) := upd_same
          replace sx := sx.trans st
          replace hLd := st _ _ hLd
          replace Rd := Rd.same st
          replace Ad := Ad.same st
          replace ht1 := st _ _ ht1
          generalize upd Hf sl (.lst ((restL l).map V.str)) = Hg at st hsl sx hLd Rd Ad ht1 ⊢
          clear st
          refine ⟨sl, rfl, ⟨_, SqL.of hsl⟩, fun D nD => ?_⟩
          refine lc_list (K := K) (a := sl) (xs := (restL l).map V.str) (fun i H' => Same Hg H' ∧ H' D = some (.lst (((restL l).take i).map fun y => V.int (tokV y)))) ⟨sadd (Same.refl Hg) nD, upd_same⟩ (fun i H' _ ⟨s, _⟩ => SqL.of (s _ _ hsl)) ?_ ?_
          · rintro j y Hx hx ⟨sx', hDx⟩
            rw [List.getElem?_map] at hx
            obtain ⟨u, hu0, rfl⟩ := Option.map_eq_some_iff.mp hx
            obtain ⟨ti, tl⟩ := tok_int (tk1 u (List.mem_of_getElem? hu0))
            refine ⟨rfl, ?_⟩
            unfold tYes
            refine iteT ?_
            refine ⟨_, rfl, u, _, rfl, ti, by omega, _, hDx, ?_, sout sx' nD, ?_⟩
            · rw [List.length_map, List.length_take, sizeLine_eq]
              omega
            · rw [upd_same, List.take_add_one, hu0, List.map_append]
              rfl
          rintro Hh ⟨sh, hDh⟩
          rw [List.length_map, List.take_length] at hDh
          have hDi : Hh D = some (.lst (is.map V.int)) := by
            rw [hDh, tk2, List.map_map]
            rfl
          refine ⟨D, _, rfl, .inl ⟨SqL.of hDi, fun t2 nt2 => ?_⟩⟩
          have st := sadd (o := .tup (is.map V.int)) (Same.refl Hh) nt2
          have ht2 : upd Hh t2 (.tup (is.map V.int)) t2 = some (.tup (is.map V.int)) := upd_same
          have sgi := sh.trans st
          replace sx := sx.trans sgi
          replace hLd := sgi _ _ hLd
          replace Rd := Rd.same sgi
          replace Ad := Ad.same sgi
          replace ht1 := sgi _ _ ht1
          generalize upd Hh t2 (.tup (is.map V.int)) = Hi at sgi st ht2 sx hLd Rd Ad ht1 ⊢
          clear st sgi
          have nis : is.map V.int ≠ [] := fun q => by
            have : x.is = [] := by rw [e2]; exact List.map_eq_nil_iff.mp q
            exact is_ne x this
          have lis : is.length ≤ 4 := by rw [← e2]; exact is_le4 x
          refine ⟨t1, t2, _, _, rfl, rfl, SqT.of ht1, SqT.of ht2, (fun q => nomatch q), (by rw [List.length_map, sizeLine_eq]; show 1 + _ ≤ _; omega), fun q => absurd q nis, fun _ t3 nt3 => ?_⟩
          have st := sadd (o := .tup ([.str (headL l)] ++ is.map V.int)) (Same.refl Hi) nt3
          have ht3 : upd Hi t3 (.tup ([.str (headL l)] ++ is.map V.int)) t3 = some (.tup x.vs) := by
            rw [upd_same, Crs.vs_eq, e1, e2]
            rfl
          replace sx := sx.trans st
          replace hLd := st _ _ hLd
          replace Rd := Rd.same st
          replace Ad := Ad.same st
          generalize upd Hi t3 (.tup ([.str (headL l)] ++ is.map V.int)) = Hj at st ht3 sx hLd Rd Ad ⊢
          clear st
          obtain ⟨ps', q1, q2, q3, q4⟩ := Rd.add ht3
          refine ⟨R, _, _, rfl, rfl, q1, (by rw [List.length_map, q2, sizeLine_eq]; omega), ?_⟩
          have sk := sout (o := .lst (ps'.map V.ref ++ [.ref t3])) sx nR
          have hLk := (upd_ne (o := .lst (ps'.map V.ref ++ [.ref t3])) nLR).trans hLd
          have Ak : AkAt (upd Hj R (.lst (ps'.map V.ref ++ [.ref t3]))) al as := by
            obtain ⟨as_, a1, a2⟩ := Ad
            exact ⟨as_, (upd_ne nRal).trans a1, a2.mono q4⟩
          generalize upd Hj R (.lst (ps'.map V.ref ++ [.ref t3])) = Hk at q3 hLk sk Ak ⊢
          obtain ⟨pk, w1', w2'⟩ := id q3
          obtain ⟨t3', ht', ht3'⟩ := w2'.get (i := cs.length) (x := x) (by rw [List.getElem?_append_right (Nat.le_refl _), Nat.sub_self]; rfl)
          have lk := w2'.len
          rw [List.length_append] at lk
          refine ⟨_, rfl, _, rfl, _, rfl, _, rfl, R, _, -1, .ref t3', rfl, rfl, SqL.of w1', atI_end (by rw [List.length_map, lk, List.getElem?_map, show cs.length + [x].length - 1 = cs.length from rfl, ht']; rfl), ?_⟩
          refine ⟨_, al, t3', ctl, as, x, rfl, Ak, ht3', by omega, fun u al' Hl slk nu nal' hu ak => ?_⟩
          refine ⟨u, _, rfl, SqT.of hu, rfl, _, _, rfl, _, _, rfl, rfl, ?_⟩
          have bl := bh_len (ctl, as) x
          have bl' : (bh (ctl, as) x).2.length ≤ as.length + 1 := bl
          refine ⟨cs ++ [x], (bh (ctl, as) x).1, al', (bh (ctl, as) x).2, _, _, _, _, _, rfl, sk.trans slk, slk _ _ hLk, q3.same slk, ak, ?_, by omega, by rw [List.length_append, lc]; rfl, by rw [wk_snoc]; exact hg, .inr ⟨Nat.succ_pos _, ?_⟩⟩
          · rcases nal' with h | h
            · rw [h]
              exact nRal
            · exact (ne_of_none w1' h).symm
          · rw [wk_snoc]
            exact hws.step e3
end
end OH
end
section
set_option Elab.async false
set_option linter.all false
set_option maxRecDepth 100000
set_option maxHeartbeats 8000000
/-! The text of a row is read back. -/
namespace OH
open PySem PySem.Spec PyProof.Rows L2
theorem sp_tl : TL.tl (" " : Str) = 32 :: [] := by decide +kernel
theorem nl_tl : TL.tl ("\n" : Str) = 10 :: [] := by decide +kernel
theorem mem_joinL {s c : Nat} : ∀ {ps : List (List Nat)}, c ∈ TL.joinL [s] ps → c = s ∨ ∃ p ∈ ps, c ∈ p
  | [], h => absurd h List.not_mem_nil
  | [p], h => .inr ⟨p, List.mem_cons_self, h⟩
  | p :: q :: r, h => by
    have h' : c ∈ p ++ ([s] ++ TL.joinL [s] (q :: r)) := h
    rcases List.mem_append.mp h' with h' | h'
    · exact .inr ⟨p, List.mem_cons_self, h'⟩
    · rcases List.mem_append.mp h' with h' | h'
      · exact .inl (List.mem_singleton.mp h')
      · rcases mem_joinL h' with e | ⟨y, hy, hc⟩
        · exact .inl e
        · exact .inr ⟨y, List.mem_cons_of_mem _ hy, hc⟩
theorem signs_ok {z : Str} (h : (TL.tl z).all (fun c => decide (97 ≤ c) && decide (c ≤ 122)) = true) : ∀ c ∈ TL.tl z, 97 ≤ c ∧ c ≤ 122 := fun c hc => by
  have := List.all_eq_true.mp h c hc
  rw [Bool.and_eq_true, decide_eq_true_eq, decide_eq_true_eq] at this
  exact this
theorem wd_signs (x : Crs) : ∀ c ∈ TL.tl x.wd, 97 ≤ c ∧ c ≤ 122 := by
  cases x with
  | start _ => exact signs_ok (z := "start") (by decide +kernel)
  | call _ _ _ _ => exact signs_ok (z := "call") (by decide +kernel)
  | back _ _ _ => exact signs_ok (z := "back") (by decide +kernel)
  | deep _ _ _ _ => exact signs_ok (z := "deep") (by decide +kernel)
  | done _ => exact signs_ok (z := "done") (by decide +kernel)
  | fin _ => exact signs_ok (z := "end") (by decide +kernel)
theorem wds_signs {x : Crs} (hb : ∀ i ∈ x.is, 0 ≤ i ∧ i ≤ 9999) : ∀ z ∈ wdsT x, ∀ c ∈ TL.tl z, 48 ≤ c := fun z hz c hc => by
  rcases List.mem_cons.mp hz with rfl | hz
  · have := wd_signs x c hc
    omega
  · obtain ⟨i, hi, rfl⟩ := List.mem_map.mp hz
    exact (strI_digits (hb i hi).1 c hc).1
theorem line_split {x : Crs} (hb : ∀ i ∈ x.is, 0 ≤ i ∧ i ≤ 9999) : Txt.split (lineT x) " " = wdsT x :=
  TL.split_join sp_tl (by decide +kernel) (fun h => nomatch h) fun p hp hc => by
    have := wds_signs hb p hp 32 hc
    omega
theorem line_nl {x : Crs} (hb : ∀ i ∈ x.is, 0 ≤ i ∧ i ≤ 9999) : 10 ∉ TL.tl (lineT x) := fun h => by
  have e2 : TL.tl (lineT x) = TL.joinL [32] ((wdsT x).map TL.tl) := by
    show TL.tl (Txt.join " " (wdsT x)) = _
    rw [TL.join_eq, TL.tl_join, sp_tl]
  rw [e2] at h
  rcases mem_joinL h with h | ⟨p, hp, hc⟩
  · cases h
  · obtain ⟨z, hz, rfl⟩ := List.mem_map.mp hp
    have := wds_signs hb z hz 10 hc
    omega
theorem row_split {cs : List Crs} (hne : cs ≠ []) (hb : ∀ x ∈ cs, ∀ i ∈ x.is, 0 ≤ i ∧ i ≤ 9999) : Txt.split (rowT cs) "\n" = cs.map lineT :=
  TL.split_join (s := 10) (S := []) nl_tl (by decide +kernel) (fun h => hne (List.map_eq_nil_iff.mp h)) fun p hp => by
    obtain ⟨x, hx, rfl⟩ := List.mem_map.mp hp
    exact line_nl (hb x hx)
theorem goW_strs : ∀ (fs : List Fd) (is : List Int) (c : Int) (acc : List Int), is.length = fs.length → ((fs.zip is).all fun q => okF q.1 q.2) = true → (∀ i ∈ is, 0 ≤ i ∧ i ≤ 9999) → goW fs (is.map strI) c acc = .inr (acc ++ is)
  | [], [], c, acc, _, _, _ => by rw [List.append_nil]; rfl
  | f :: fs, i :: is, c, acc, hl, ha, hb => by
    rw [List.zip_cons_cons, List.all_cons, Bool.and_eq_true] at ha
    obtain ⟨b0, b1⟩ := hb i (List.mem_cons_self ..)
    obtain ⟨t1, t2⟩ := tok_strI b0 b1
    have ht : told f (strI i) = true := by
      unfold told
      rw [t1, t2, ha.1]
      rfl
    have e : goW (f :: fs) ((i :: is).map strI) c acc = if told f (strI i) = true then goW fs (is.map strI) (c + (((strI i).length : Int) + 1)) (acc ++ [tokV (strI i)]) else .inl c := rfl
    rw [e, if_pos ht, goW_strs fs is _ _ (Nat.succ.inj hl) ha.2 (fun j hj => hb j (List.mem_cons_of_mem _ hj)), t2, List.append_assoc]
    rfl
theorem lineP_line {w : Wk} {x : Crs} (hb : ∀ i ∈ x.is, 0 ≤ i ∧ i ≤ 9999) (hc : canC w x = true) : lineP w (headL (lineT x)) (restL (lineT x)) = .inr x.is ∧ headL (lineT x) = x.wd := by
  have hs := line_split hb
  have e1 : headL (lineT x) = x.wd := by
    unfold headL
    rw [hs]
    rfl
  have e2 : restL (lineT x) = x.is.map strI := by
    unfold restL
    rw [hs]
    rfl
  refine ⟨?_, e1⟩
  rw [e1, e2]
  unfold canC canF at hc
  unfold lineP
  cases hf : fld w x.wd with
  | none => rw [hf] at hc; cases hc
  | some fs =>
    rw [hf] at hc
    have hc' : (decide (x.is.length = fs.length) && (fs.zip x.is).all fun q => okF q.1 q.2) = true := hc
    rw [Bool.and_eq_true, decide_eq_true_eq] at hc'
    exact goW_strs fs x.is _ [] hc'.1 hc'.2 hb
theorem mkC_crs (x : Crs) : mkC x.wd x.is = x := by
  show (crsX x.ci).getD (.fin 0) = x
  rw [crsX_ci]
  rfl
theorem rowP_lines : ∀ (xs : List Crs) (k : Nat) (w : Wk) (acc : List Crs), goodGo w xs = true → (∀ x ∈ xs, ∀ i ∈ x.is, 0 ≤ i ∧ i ≤ 9999) → rowP k w acc (xs.map lineT) = .inr (acc ++ xs)
  | [], k, w, acc, _, _ => by rw [List.append_nil]; rfl
  | x :: xs, k, w, acc, hg, hb => by
    have hg' : (canC w x && goodGo (tk w x) xs) = true := hg
    rw [Bool.and_eq_true] at hg'
    obtain ⟨h1, h2⟩ := lineP_line (hb x (List.mem_cons_self ..)) hg'.1
    have e : rowP k w acc ((x :: xs).map lineT) = match lineP w (headL (lineT x)) (restL (lineT x)) with
      | .inl c => .inl (k + 1, c)
      | .inr is => rowP (k + 1) (tk w (mkC (headL (lineT x)) is)) (acc ++ [mkC (headL (lineT x)) is]) (xs.map lineT) := rfl
    rw [e, h1]
    show rowP (k + 1) (tk w (mkC (headL (lineT x)) x.is)) (acc ++ [mkC (headL (lineT x)) x.is]) (xs.map lineT) = _
    rw [h2, mkC_crs, rowP_lines xs _ _ _ hg'.2 (fun y hy => hb y (List.mem_cons_of_mem _ hy)), List.append_assoc]
    rfl
theorem read_rowT {cs : List Crs} (hg : goodB cs = true) (hb : ∀ x ∈ cs, ∀ i ∈ x.is, 0 ≤ i ∧ i ≤ 9999) : readT (rowT cs) = .inr cs := by
  cases cs with
  | nil => cases hg
  | cons x xs =>
    unfold readT
    rw [row_split (cs := x :: xs) (by intro h; cases h) hb]
    exact (rowP_lines (x :: xs) 0 w0 [] hg hb).trans (by rw [List.nil_append])
end OH
end
section
set_option Elab.async false
set_option linter.all false
set_option maxRecDepth 100000
set_option maxHeartbeats 8000000
/-! Answers that hold. -/
namespace OH
open PySem PySem.Spec PyProof.Rows L2
open LamX (Tabs TabS ExtN TabB CodeO)
theorem call_isJA {X : Cx} {D : Addr} (C : ExcC X.K D) : CallR X (.builtin "isinstance") (fun xs H Q => ∃ (fs : Option (List (Str × V))) (a : Addr) (c : V) (cv : Value) (b : Bool),
    xs = [.ref a, c] ∧ Held H a D fs ∧ (∀ u, RelV c u → u = cv) ∧ PySem.W.kitOne X.K (.ref D) cv = some b ∧ Q (.bl b) H) :=
  fun pins s σ H xs us Q I r ⟨fs, h⟩ => call_isJ (fs := fs) C pins s σ H xs us Q I r h
theorem extN_of {H H' : Hp} (s : Same H H') : ExtN H H' := ExtN.of fun q o e => s q o e
def kw0 {α : Type} (us ws : List α) : List α := match us, ws with
  | [], [x] => [x]
  | _, _ => []
theorem kb1 {K : PySem.W.Frag} {fd : FuncData} {p : Str} (h : ∀ (s : Shared) (x : Value), K.In s.heap → BindsTo s fd ⟨[], [(p, x)]⟩ [(p, x)]) : KBinds K fd [p] [p] kw0 kw0 := by
  refine ⟨fun s us ws k l => ?_, fun {vs us zs ws} a b => ?_⟩
  · match us, ws, l with
    | [], [x], _ => exact h s x k
    | [], [], l => cases l
    | [], _ :: _ :: _, l => cases l
    | _ :: _, _, l => cases l
  · match vs, us, a, zs, ws, b with
    | [], [], _, [x], [x'], .cons h1 _ => exact .cons h1 .nil
    | [], [], _, [], [], _ => exact .nil
    | [], [], _, _ :: _ :: _, _ :: _ :: _, _ => exact .nil
    | _ :: _, _ :: _, _, _, _, _ => exact .nil
theorem kb_row_of {K : PySem.W.Frag} {f : Addr} {fd : FuncData} (F : Fun K "row_of" "row_of" s_row_of f fd) : KBinds K fd ["text"] ["text"] kw0 kw0 := by
  obtain ⟨oc, od, kV, doc, pm, an, cdv, ct, osl, rfl, lk, hcd⟩ := F.ex
  exact kb1 fun s x k => .of_eq rfl
theorem kb_row_text {K : PySem.W.Frag} {f : Addr} {fd : FuncData} (F : Fun K "row_text" "row_text" s_row_text f fd) : KBinds K fd ["row"] ["row"] kw0 kw0 := by
  obtain ⟨oc, od, kV, doc, pm, an, cdv, ct, osl, rfl, lk, hcd⟩ := F.ex
  exact kb1 fun s x k => .of_eq rfl
theorem eqv_shZ {d : PyData} (h : SeqAt.shaped d = true) : PyData.eqv d d = true := SeqAt.eqv_refl d (by unfold SeqAt.shaped at h; rw [Bool.and_eq_true] at h; exact h.1)
def spAnsT (T : List (Addr × Str)) : Sp := fun vs H Q _ => ∃ (t : Str), vs = [.str t] ∧ t.length ≤ 90000 ∧ Tabs T H ∧ ∀ H', ExtN H H' → Tabs T H' → Q (.bl true) H'
section
variable {P : Program} {w : World} {K : PySem.W.Frag} {mg : Str → Option Value} {base : Heap}
abbrev nAn : List Str := ["text", "due", "caught"]
theorem sc__law_answer_holds : FnScope nAn ["text"] (defScope s__law_answer_holds) := ⟨rfl, rfl, rfl, by decide +kernel, rfl, by decide +kernel, by decide +kernel⟩
theorem ok__law_answer_holds {f c0 Pt CO C fC fR : Addr} {fdC fdR : FuncData} {Ts : List (Addr × Str)} {oc : Value} {od an : Option Addr} {kV doc pm ct : Value} {osl : Array (Option Value)}
    (lk : K.lookup f = some ⟨oc, od, .func (PySem.W.fnOf "_law_answer_holds" "_law_answer_holds" (defArgs s__law_answer_holds) (defBody s__law_answer_holds) (defScope s__law_answer_holds) .none kV doc pm an (.ref c0) ct), osl⟩) (hcd : PySem.W.codeIn K (.ref c0) "_law_answer_holds" = true)
    (T : Txt K mg) (TB : TabB base mg c0 Pt) (hT : ((Pt, "_law_answer_holds.<locals>.<lambda>") : Addr × Str) ∈ Ts) (hu : ∀ p ∈ Ts, p.1 = Pt → p.2 = "_law_answer_holds.<locals>.<lambda>")
    (TL : ErrF P K mg "BadText" "line" C) (TC : ErrF P K mg "BadText" "column" C) (gO : mg "OwnharmError" = some (.ref CO)) (mO : PySem.W.exmOne K (.ref C) (.ref CO) = some true) (iB : PySem.W.kitOne K (.ref C) (.ref C) = some true)
    (FR : FnOk P w K mg base (L2.CX P w) 7 fR fdR ["text"] (spRowOf C)) (mR : mg "row_of" = some (.ref fR)) (kR : PySem.W.keepIn K (.ref fR) = true) (bR : Binds K fdR ["text"] []) (kbR : KBinds K fdR ["text"] ["text"] kw0 kw0)
    (FC : Fun K "_law_caught" "_law_caught" s__law_caught fC fdC) (mC : mg "_law_caught" = some (.ref fC)) (bC : Binds K fdC ["action"] [])
    (DR : DefF P w K mg base CX0 9 "_law_read" ["text"] spRead) :
    FnOk P w K mg base CX0 10 f (PySem.W.fnOf "_law_answer_holds" "_law_answer_holds" (defArgs s__law_answer_holds) (defBody s__law_answer_holds) (defScope s__law_answer_holds) .none kV doc pm an (.ref c0) ct) ["text"] (spAnsT Ts) := by
  obtain ⟨oC, oD, kVC, docC, pmC, anC, cdC, ctC, oslC, rfl, lkC, cgC⟩ := FC.ex
  refine fn_of lk hcd sc__law_answer_holds (fun vs H Q E h => ?_) fun A outer s H vs Q E hr h => ?_
  · obtain ⟨t, rfl, _⟩ := h
    rfl
  obtain ⟨t, rfl, ht, hTb, k⟩ := h
  have nd := sc__law_answer_holds.nd
  refine (fun (main : ∃ t', PSs (cxOf CX0 P w K mg base nAn "_law_answer_holds" (defScope s__law_answer_holds) f (.ref c0) A outer s H E).nox (defBody s__law_answer_holds) t' ∧
      t' { nx := fun _ H' => Q .non H', rt := Q } (L2.start nAn [.str t]) H) => (by obtain ⟨t', h1, h2⟩ := main; exact ⟨t', h1.nox, h2⟩)) ?_
  refine ⟨_, pss_cons (ps_set (i := 1) nd rfl (Or.inl rfl) (pe_cD DR hr rfl pass0 (pa_cons (pv 0) pa_nil)))
      (pss_cons (ps_if (pt_val (pe_callB call_isi (by rfl) T.nIsi (by decide +kernel) (pa_cons (pv 1) (pa_cons (pe_bltn (v := .ty "list") (by rfl) T.nList (by decide +kernel) rfl) pa_nil)))) (pss_one (ps_ret (pe_cmpR (op_eqD hr.units) (pe_callK0 FR (hr.mono (by decide)) rfl mR kR kbR passL (pk_cons (pv 0) pk_nil)) (pv 1) (nomark _)))) pss_nil)
      (pss_cons (ps_set (i := 2) nd rfl (Or.inl rfl) (LamX.pe_lamcall (k := 7) (params := _) (t := fun E => _) rfl mC FC.kp lkC cgC bC sc__law_caught rfl (Or.inl rfl) (caught_givesJ gO) TB rfl hT hu hr
        (LamX.lamS_by (by show LamX.lamSB (defScope s__law_answer_holds) _ = true; decide +kernel)) rfl (fun _ _ _ _ _ => rfl)
        (fun A outer s H E f c' hr2 => (pe_callS FR hr2 rfl mR kR bR (fun σ => L2.passAt (takes_of rfl rfl rfl rfl) σ) (pa_cons (pv 0) pa_nil)))))
      (pss_one (ps_ret (pe_and (pe_callB (call_isJA TL.i) (by rfl) T.nIsi (by decide +kernel) (pa_cons (pv 2) (pa_cons (pe_glob (v := .ref C) rfl TL.g rfl) pa_nil))) (pe_one (pe_cmpR (op_eqD hr.units) (pe_tup (pa_cons (pe_heldf TL.f (pv 2)) (pa_cons (pe_heldf TC.f (pv 2)) pa_nil))) (pv 1) (nomark _)))))))), ?_⟩
  refine ⟨_, rfl, t, rfl, ht, fun kk cc e p H1 s1 np hp => ?_, fun cs e l H1 s1 nl hl => ?_⟩
  · refine ⟨_, rfl, _, _, _, _, _, rfl, .ty "list", .base (.tup hp), kit_ty (r := false) (by decide +kernel), _, rfl, iteF ?_⟩
    refine ⟨hTb.ext s1, fun H4 e4 T4 Q' hQ' => ⟨_, rfl, .str t, rfl, trivial, fun z => absurd rfl (z t), fun t' et => ?_⟩⟩
    cases et
    refine ⟨ht, ?_, ?_⟩
    rotate_left
    · intro cs2 e2
      rw [e] at e2
      cases e2
    intro k2 c2 e2 d H5 s5 nd5
    refine ⟨mO, fun ex nex => ?_⟩
    rw [e] at e2
    cases e2
    have s9 := sadd (o := .xd [("column", .int cc), ("line", .int (kk : Int))]) s5 nd5
    have h9 : upd H5 d (.xd [("column", .int cc), ("line", .int (kk : Int))]) d = some (.xd [("column", .int cc), ("line", .int (kk : Int))]) := upd_same
    generalize upd H5 d (.xd [("column", .int cc), ("line", .int (kk : Int))]) = H9 at nex h9 s9 ⊢
    have s10 := sadd (o := ExJ (.ref C) (some d) ex) (Same.refl H9) nex
    have h10 : upd H9 ex (ExJ (.ref C) (some d) ex) ex = some (ExJ (.ref C) (some d) ex) := upd_same
    replace h9 := s10 _ _ h9
    replace s10 := s9.trans s10
    generalize upd H9 ex (ExJ (.ref C) (some d) ex) = Hz at h9 h10 s10 ⊢
    have held : Held Hz ex C (some [(("column" : Str), .int cc), (("line" : Str), .int (kk : Int))]) := ⟨d, h10, h9⟩
    have x0z := ((extN_of s1).trans e4).trans (extN_of s10)
    have x3z := e4.trans (extN_of s10)
    have Tz := T4.ext s10
    refine ⟨_, rfl, some _, ex, .ref C, .ref C, true, rfl, held, fun u z => z, iB, _, rfl, iteT ?_⟩
    refine ⟨_, rfl, ex, _, .int (kk : Int), rfl, held, rfl, _, rfl, ex, _, .int cc, rfl, held, rfl, (by show 2 ≤ sizeLine; decide), fun q nq => ?_⟩
    have s11 := sadd (o := .tup [.int (kk : Int), .int cc]) (Same.refl Hz) nq
    refine ⟨_, rfl, pairD ((kk : Int), cc), pairD ((kk : Int), cc), .tup (SqT.of upd_same) (.cons (.int _) (.cons (.int _) .nil)), .tup (SqT.of (s11 _ _ (x3z _ _ hp (fun _ z => nomatch z)))) (.cons (.int _) (.cons (.int _) .nil)), shaped_pair _ _, shaped_pair _ _, ?_⟩
    rw [eqv_shZ (shaped_pair _ _)]
    exact k _ (x0z.trans (extN_of s11)) (Tz.ext s11)
  · obtain ⟨ps, q1, q2⟩ := hl
    refine ⟨_, rfl, _, _, _, _, _, rfl, .ty "list", .base (.lst q1), kit_ty (r := true) (by decide +kernel), _, rfl, iteT ?_⟩
    refine ⟨_, rfl, .str t, rfl, trivial, fun z => absurd rfl (z t), fun t' et => ?_⟩
    cases et
    refine ⟨ht, ?_, ?_⟩
    · intro k2 c2 e2
      rw [e] at e2
      cases e2
    intro cs2 e2 l2 H2 s2 nl2 hl2
    rw [e] at e2
    cases e2
    obtain ⟨us, u1, u2⟩ := hl2
    refine ⟨_, rfl, .list (cs.map Crs.d), .list (cs.map Crs.d), .lst (SqL.of u1) u2.rowdp, .lst (SqL.of (s2 _ _ q1)) (q2.mono fun q xs e => s2 _ _ e).rowdp, shaped_row cs, shaped_row cs, ?_⟩
    rw [row_eqv, decide_eq_true rfl]
    exact k _ (extN_of (s1.trans s2)) (hTb.ext (s1.trans s2))
end
end OH
end
section
set_option Elab.async false
set_option linter.all false
set_option maxRecDepth 100000
set_option maxHeartbeats 8000000
/-! Texts changed. -/
namespace OH
open PySem PySem.Spec PyProof.Rows L2
def wsz (ls : List Str) : Nat := (ls.map fun z => z.length + 1).sum
theorem wsz_cons (z : Str) (ls : List Str) : wsz (z :: ls) = z.length + 1 + wsz ls := by unfold wsz; rw [List.map_cons, List.sum_cons]
theorem wsz_app (a b : List Str) : wsz (a ++ b) = wsz a + wsz b := by unfold wsz; rw [List.map_append, List.sum_append]
theorem wsz_len (ls : List Str) : ls.length ≤ wsz ls := by
  induction ls with
  | nil => exact Nat.zero_le _
  | cons z ls ih => rw [wsz_cons, List.length_cons]; omega
theorem wsz_take (ls : List Str) (k : Nat) : wsz (ls.take k) ≤ wsz ls := by
  have e := wsz_app (ls.take k) (ls.drop k)
  rw [List.take_append_drop] at e
  omega
theorem wsz_drop (ls : List Str) (k : Nat) : wsz (ls.drop k) ≤ wsz ls := by
  have e := wsz_app (ls.take k) (ls.drop k)
  rw [List.take_append_drop] at e
  omega
theorem wsz_mem {ls : List Str} {z : Str} (h : z ∈ ls) : z.length + 1 ≤ wsz ls := by
  induction ls with
  | nil => cases h
  | cons y ls ih =>
    rw [wsz_cons]
    rcases List.mem_cons.mp h with rfl | h
    · omega
    · have := ih h
      omega
theorem wsz_set (ls : List Str) (k : Nat) (z : Str) : wsz (ls.set k z) ≤ wsz ls + z.length + 1 := by
  induction ls generalizing k with
  | nil => exact Nat.zero_le _
  | cons y ls ih =>
    cases k with
    | zero => rw [List.set_cons_zero, wsz_cons, wsz_cons]; omega
    | succ k =>
      rw [List.set_cons_succ, wsz_cons, wsz_cons]
      have := ih k
      omega
theorem wsz_sum (ls : List Str) : wsz ls = (ls.map (·.length)).sum + ls.length * 1 := by
  induction ls with
  | nil => rfl
  | cons z ls ih => rw [wsz_cons, ih, List.map_cons, List.sum_cons, List.length_cons]; omega
theorem cut_strs (ls : List Str) (lo hi : Option Int) : ∃ ms : List Str, cutV (ls.map V.str) lo hi = ms.map V.str ∧ wsz ms ≤ wsz ls ∧ ms.length ≤ ls.length := by
  unfold cutV
  refine ⟨(ls.drop (HT.sIx (ls.map V.str).length 0 lo)).take (HT.sIx (ls.map V.str).length (ls.map V.str).length hi - HT.sIx (ls.map V.str).length 0 lo), by rw [List.map_take, List.map_drop], Nat.le_trans (wsz_take _ _) (wsz_drop _ _), ?_⟩
  rw [List.length_take, List.length_drop]
  omega
theorem tl_map_sum : ∀ ls : List Str, ((ls.map TL.tl).map List.length).sum + ls.length = wsz ls
  | [] => rfl
  | z :: ls => by
    rw [List.map_cons, List.map_cons, List.sum_cons, List.length_cons, wsz_cons, ← tl_map_sum ls, TL.len_tl]
    omega
theorem join_wt {y : Str} {c : Nat} (hy : TL.tl y = [c]) (ls : List Str) : (Txt.join y ls).length ≤ wsz ls := by
  have e := TL.len_tl (Txt.join y ls)
  rw [TL.join_eq, TL.tl_join, hy] at e
  rw [TL.join_eq]
  have a := joinL_len (c := c) (ls.map TL.tl)
  rw [List.length_map] at a
  have b := tl_map_sum ls
  omega
theorem joinL_exact {c : Nat} : ∀ (ps : List (List Nat)), ps ≠ [] → (TL.joinL [c] ps).length + 1 = (ps.map List.length).sum + ps.length
  | [], h => absurd rfl h
  | [p], _ => by show p.length + 1 = [p.length].sum + 1; rw [List.sum_cons]; rfl
  | p :: q :: r, _ => by
    have ih := joinL_exact (c := c) (q :: r) (fun h => nomatch h)
    show (p ++ ([c] ++ TL.joinL [c] (q :: r))).length + 1 = (p.length :: (q :: r).map List.length).sum + ((q :: r).length + 1)
    rw [List.length_append, List.length_append, List.sum_cons]
    show p.length + (1 + _) + 1 = _
    omega
theorem split_wt {y : Str} {c : Nat} (hy : TL.tl y = [c]) (x : Str) : wsz (Txt.split x y) ≤ x.length + 1 := by
  have e : TL.joinL [c] ((Txt.split x y).map TL.tl) = TL.tl x := by
    rw [← hy, ← TL.tl_join, StrLaws.join_split]
  have b := tl_map_sum (Txt.split x y)
  by_cases h : Txt.split x y = []
  · rw [h]
    exact Nat.zero_le _
  · have a := joinL_exact (c := c) ((Txt.split x y).map TL.tl) (fun z => h (List.map_eq_nil_iff.mp z))
    have lx := TL.len_tl x
    rw [e, List.length_map] at a
    omega
theorem split_emptyN : Txt.split "" "\n" = ([""] : List Str) := by decide +kernel
theorem split_posS (x : Str) : 0 < (Txt.split x " ").length := by
  rw [head_rest]
  exact Nat.succ_pos _
theorem split_posN (x : Str) : 0 < (Txt.split x "\n").length := by
  cases q : decide (V.str x = V.str "") with
  | false =>
    cases e : Txt.split x "\n" with
    | nil => exact absurd e (split_ne q)
    | cons a b => exact Nat.succ_pos _
  | true =>
    have : x = "" := V.str.inj (of_decide_eq_true q)
    rw [this, split_emptyN]
    exact Nat.succ_pos _
def shS : V → Bool
  | .str z => decide (z.length ≤ 5)
  | _ => false
theorem sh_mem {xs : List V} {x : V} (h : xs.all shS = true) (hx : x ∈ xs) : ∃ z : Str, x = .str z ∧ z.length ≤ 5 := by
  have := List.all_eq_true.mp h x hx
  cases x <;> first
    | (cases this; done)
    | exact ⟨_, rfl, of_decide_eq_true this⟩
/-- lines and words, beside the state -/
structure ChS (H0 H : Hp) (st g c L W : Addr) (n : Nat) (ls ws : List Str) : Prop where
  S : SA H st g c n
  F : Fr st g H0 H
  hL : H L = some (.lst (ls.map V.str))
  hW : H W = some (.lst (ws.map V.str))
  nL : H0 L = none
  nW : H0 W = none
  zL : L ≠ st ∧ L ≠ g ∧ L ≠ c
  zW : W ≠ st ∧ W ≠ g ∧ W ≠ c
  ne : L ≠ W
section
variable {H0 H H' : Hp} {st g c L W p : Addr} {n m : Nat} {ls ws ms : List Str}
theorem ChS.draw (h : ChS H0 H st g c L W n ls ws) (S : SA H' st g c m) (F : Fr st g H H') : ChS H0 H' st g c L W m ls ws :=
  ⟨S, h.F.trans F, F _ _ h.hL h.zL.1 h.zL.2.1, F _ _ h.hW h.zW.1 h.zW.2.1, h.nL, h.nW, h.zL, h.zW, h.ne⟩
theorem ChS.same (h : ChS H0 H st g c L W n ls ws) (s : Same H H') : ChS H0 H' st g c L W n ls ws := h.draw (h.S.same s) (Fr.of s)
theorem ChS.mono (h : ChS H0 H st g c L W n ls ws) (l : n ≤ m) : ChS H0 H st g c L W m ls ws := h.draw (h.S.mono l) (Fr.refl _ _ _)
theorem ChS.put (h : ChS H0 H st g c L W n ls ws) {o : HO} (np : H p = none) : ChS H0 (upd H p o) st g c L W n ls ws := h.same (sadd (Same.refl H) np)
theorem ChS.newW (h : ChS H0 H st g c L W n ls ws) (hp : H p = some (.lst (ms.map V.str))) (n0 : H0 p = none) (z : p ≠ st ∧ p ≠ g ∧ p ≠ c) (ne : L ≠ p) : ChS H0 H st g c L p n ls ms :=
  ⟨h.S, h.F, h.hL, hp, h.nL, n0, h.zL, z, ne⟩
theorem ChS.newL (h : ChS H0 H st g c L W n ls ws) (hp : H p = some (.lst (ms.map V.str))) (n0 : H0 p = none) (z : p ≠ st ∧ p ≠ g ∧ p ≠ c) (ne : p ≠ W) : ChS H0 H st g c p W n ms ws :=
  ⟨h.S, h.F, hp, h.hW, n0, h.nW, z, h.zW, ne⟩
theorem ChS.setW (h : ChS H0 H st g c L W n ls ws) : ChS H0 (upd H W (.lst (ms.map V.str))) st g c L W n ls ms :=
  ⟨h.S.put h.zW, h.F.out h.nW, (upd_ne h.ne).trans h.hL, upd_same, h.nL, h.nW, h.zL, h.zW, h.ne⟩
theorem ChS.setL (h : ChS H0 H st g c L W n ls ws) : ChS H0 (upd H L (.lst (ms.map V.str))) st g c L W n ms ws :=
  ⟨h.S.put h.zL, h.F.out h.nL, upd_same, (upd_ne h.ne.symm).trans h.hW, h.nL, h.nW, h.zL, h.zW, h.ne⟩
theorem ChS.free (h : ChS H0 H st g c L W n ls ws) (np : H p = none) : H0 p = none := h.F.free np (h.S.old np).1 (h.S.old np).2.1
end
theorem ixN_lt {n i : Nat} (h : i < n) : ixN n (i : Int) = some i := by
  unfold ixN
  rw [if_pos (by omega), if_pos (by omega)]
  congr 1
theorem op_cat_strs {K : PySem.W.Frag} {H : Hp} {a b : Addr} {xs ys : List Str} : True := trivial
def spChanged : Sp := fun vs H Q _ => ∃ (st g c : Addr) (n : Nat) (t : Str), vs = [.ref st, .str t] ∧ SA H st g c n ∧ n ≤ 700000 ∧ t.length ≤ 10000 ∧
  ∀ (t' : Str) H', t'.length ≤ 9 * t.length + 200 → SA H' st g c (n + 10) → Fr st g H H' → Q (.str t') H'
section
variable {P : Program} {w : World} {K : PySem.W.Frag} {mg : Str → Option Value} {base : Heap}
abbrev nCh : List Str := ["state", "text", "way", "at", "lines", "spot", "words", "k", "other"]
theorem sc__law_changed : FnScope nCh ["state", "text"] (defScope s__law_changed) := ⟨rfl, rfl, rfl, by decide +kernel, rfl, by decide +kernel, by decide +kernel⟩
theorem ok__law_changed {f : Addr} {fd : FuncData} (F : Fun K "_law_changed" "_law_changed" s__law_changed f fd) (T : Txt K mg) (DD : DefF P w K mg base CX0 6 "_law_draw" ["state", "room"] spDraw) (DP : DefF P w K mg base CX0 6 "_law_pick" ["state", "some"] spPick) :
    FnOk P w K mg base CX0 7 f fd ["state", "text"] spChanged := by
  refine F.ok sc__law_changed (fun vs H Q E h => ?_) (fun cdv A outer s H vs Q E hr h => ?_)
  · obtain ⟨st, g, c, n, t, rfl, _⟩ := h
    rfl
  obtain ⟨st, g, c, n, t, rfl, S, hn, ht, kk⟩ := h
  have nd := sc__law_changed.nd
  have sL := sizeLine_eq
  refine ⟨_, pss_cons (ps_par (i := 2) (j := 3) (by rfl) nd rfl rfl (by decide) rfl rfl (pa_cons (pe_cD DD hr rfl pass0 (pa_cons (pv 0) (pa_cons pe_int pa_nil))) (pa_cons (pe_cD DD hr rfl pass0 (pa_cons (pv 0) (pa_cons (pe_op op_add (pe_callB call_len_str (by rfl) T.nLen (by decide +kernel) (pa_cons (pv 1) pa_nil)) pe_int) pa_nil))) pa_nil)) (by rfl))
      (pss_cons (ps_if (pt_cmpR op_eq (pv 2) pe_int (nomark _)) (pss_one (ps_ret (pe_op op_add_str (pe_op op_add_str (pe_slice sl_str (pv 1) po_none (po_some (pv 3))) (pe_cD DP hr rfl pass0 (pa_cons (pv 0) (pa_cons (pe_lst (pa_cons pe_str (pa_cons pe_str (pa_cons pe_str (pa_cons pe_str (pa_cons pe_str (pa_cons pe_str (pa_cons pe_str (pa_cons pe_str pa_nil))))))))) pa_nil)))) (pe_slice sl_str (pv 1) (po_some (pv 3)) po_none)))) pss_nil)
      (pss_cons (ps_if (pt_cmpR op_eq (pv 2) pe_int (nomark _)) (pss_one (ps_ret (pe_op op_add_str (pe_slice sl_str (pv 1) po_none (po_some (pv 3))) (pe_slice sl_str (pv 1) (po_some (pe_op op_add (pv 3) pe_int)) po_none)))) pss_nil)
      (pss_cons (ps_set (i := 4) nd rfl (Or.inl rfl) (pe_split (pv 1) pe_str))
      (pss_cons (ps_set (i := 5) nd rfl (Or.inl rfl) (pe_cD DD hr rfl pass0 (pa_cons (pv 0) (pa_cons (pe_callB call_len_seq (by rfl) T.nLen PySem.boot_len (pa_cons (pv 4) pa_nil)) pa_nil))))
      (pss_cons (ps_set (i := 6) nd rfl (Or.inl rfl) (pe_split (pe_ix ix_list (pv 4) (pv 5) (fun _ _ => rfl)) pe_str))
      (pss_cons (ps_set (i := 7) nd rfl (Or.inl rfl) (pe_cD DD hr rfl pass0 (pa_cons (pv 0) (pa_cons (pe_callB call_len_seq (by rfl) T.nLen PySem.boot_len (pa_cons (pv 6) pa_nil)) pa_nil))))
      (pss_cons (ps_up (ps_if (pt_cmpR op_eq (pv 2) pe_int (nomark _)) (pss_cons (ps_set (i := 8) nd rfl (Or.inl rfl) (pe_lst (pa_cons pe_str (pa_cons pe_str (pa_cons pe_str (pa_cons pe_str (pa_cons pe_str (pa_cons pe_str (pa_cons pe_str (pa_cons pe_str (pa_cons pe_str (pa_cons pe_str pa_nil))))))))))))
      (pss_one (ps_asg (pe_cD DP hr rfl pass0 (pa_cons (pv 0) (pa_cons (pe_op op_cat (pe_lst (pa_cons pe_str (pa_cons pe_str (pa_cons pe_str (pa_cons pe_str (pa_cons pe_str (pa_cons pe_str pa_nil))))))) (pv 8)) pa_nil))) (pg_sub (pv 6) (pv 7) set_list)))) pss_nil))
      (pss_cons (ps_up (ps_if (pt_cmpR op_eq (pv 2) pe_int (nomark _)) (pss_one (ps_set (i := 6) nd rfl (Or.inl rfl) (pe_op op_cat (pe_slice sl_list (pv 6) po_none (po_some (pv 7))) (pe_slice sl_list (pv 6) (po_some (pe_op op_add (pv 7) pe_int)) po_none)))) pss_nil))
      (pss_cons (ps_up (ps_if (pt_cmpR op_eq (pv 2) pe_int (nomark _)) (pss_one (ps_set (i := 6) nd rfl (Or.inl rfl) (pe_op op_cat (pv 6) (pe_lst (pa_cons (pe_cD DP hr rfl pass0 (pa_cons (pv 0) (pa_cons (pe_lst (pa_cons pe_str (pa_cons pe_str (pa_cons pe_str (pa_cons pe_str pa_nil))))) pa_nil))) pa_nil))))) pss_nil))
      (pss_cons (ps_asg (pe_join pe_str (pv 6)) (pg_sub (pv 4) (pv 5) set_list))
      (pss_cons (ps_up (ps_if (pt_cmpR op_eq (pv 2) pe_int (nomark _)) (pss_one (ps_set (i := 4) nd rfl (Or.inl rfl) (pe_op op_cat (pe_slice sl_list (pv 4) po_none (po_some (pv 5))) (pe_slice sl_list (pv 4) (po_some (pe_op op_add (pv 5) pe_int)) po_none)))) pss_nil))
      (pss_cons (ps_up (ps_if (pt_cmpR op_eq (pv 2) pe_int (nomark _)) (pss_one (ps_set (i := 4) nd rfl (Or.inl rfl) (pe_op op_cat (pe_op op_cat (pe_slice sl_list (pv 4) po_none (po_some (pv 5))) (pe_lst (pa_cons (pe_ix ix_list (pv 4) (pv 5) (fun _ _ => rfl)) pa_nil))) (pe_slice sl_list (pv 4) (po_some (pv 5)) po_none)))) pss_nil))
      (pss_one (ps_ret (pe_join pe_str (pv 4)))))))))))))))), ?_⟩
  refine ⟨_, rfl, st, g, c, _, 7, rfl, S, by omega, by decide, by decide, fun way H1 _ _ S1 F1 => ?_⟩
  refine ⟨_, rfl, _, rfl, t, rfl, by omega, _, _, rfl, rfl, st, g, c, _, (t.length : Int) + 1, rfl, S1, by omega, by omega, by omega, fun at_ H2 a0 a1 S2 F2 => ⟨_, _, rfl, ?_⟩⟩
  have F02 := F1.trans F2
  clear F1 F2 S1
  have done : ∀ {t' : Str} {Hz : Hp} {m : Nat}, t'.length ≤ 9 * t.length + 200 → m ≤ n + 10 → SA Hz st g c m → Fr st g H Hz → Q (.str t') Hz := fun h1 h2 h3 h4 => kk _ _ h1 (h3.mono h2) h4
  refine ⟨_, rfl, rfl, _, rfl, ite2 (fun _ => ?_) (fun _ => ?_)⟩
  · refine ⟨_, rfl, _, rfl, _, rfl, t, rfl, by omega, ?_⟩
    refine ⟨_, rfl, by show 8 ≤ sizeLine; omega, fun p np => ?_⟩
    have z := S2.old np
    refine ⟨st, g, c, p, _, _, rfl, S2.put z, by omega, upd_same, z.2.1, by decide, by decide, fun x H3 hx S3 F3 => ?_⟩
    obtain ⟨y, rfl, hy⟩ := sh_mem (by decide +kernel) hx
    have F03 := F02.trans ((Fr.of (sadd (Same.refl H2) np)).trans F3)
    have l1 := cutS_length t none (some at_)
    have l2 := cutS_length t (some at_) none
    refine ⟨_, _, rfl, rfl, by omega, ?_⟩
    refine ⟨_, rfl, _, rfl, _, rfl, t, rfl, by omega, ?_⟩
    refine ⟨_, _, rfl, rfl, by rw [Str.length_append]; omega, ?_⟩
    exact done (by rw [Str.length_append, Str.length_append]; omega) (by omega) S3 F03
  refine ⟨_, rfl, rfl, _, rfl, ite2 (fun _ => ?_) (fun _ => ?_)⟩
  · refine ⟨_, rfl, _, rfl, _, rfl, t, rfl, by omega, ?_⟩
    refine ⟨_, rfl, _, rfl, _, _, rfl, rfl, _, rfl, t, rfl, by omega, ?_⟩
    have l1 := cutS_length t none (some at_)
    have l2 := cutS_length t (some (at_ + 1)) none
    refine ⟨_, _, rfl, rfl, by omega, ?_⟩
    exact done (by rw [Str.length_append]; omega) (by omega) S2 F02
  -- the lines
  refine ⟨_, rfl, ⟨t, rfl⟩, t, "\n", rfl, rfl, by decide +kernel, by omega, fun L nL => ?_⟩
  have wl := split_wt (y := "\n") (c := 10) (by decide +kernel) t
  have pl := split_posN t
  generalize Txt.split t "\n" = ls at wl pl ⊢
  have zL := S2.old nL
  have nL0 := F02.free nL zL.1 zL.2.1
  have hL : upd H2 L (.lst (ls.map V.str)) L = some (.lst (ls.map V.str)) := upd_same
  replace S2 := S2.put (o := .lst (ls.map V.str)) zL
  replace F02 := F02.out (o := .lst (ls.map V.str)) nL0
  generalize upd H2 L (.lst (ls.map V.str)) = H3 at S2 F02 hL ⊢
  clear nL
  have ll := wsz_len ls
  refine ⟨_, rfl, _, rfl, L, _, rfl, .inl (SqL.of hL), st, g, c, _, (((ls.map V.str).length : Nat) : Int), rfl, S2, by omega, by rw [List.length_map]; omega, by rw [List.length_map]; omega, fun z H4 z0 z1 S4 F4 => ?_⟩
  rw [List.length_map] at z1
  obtain ⟨spot, rfl⟩ := Int.eq_ofNat_of_zero_le z0
  have hsp : spot < ls.length := by omega
  replace hL := F4 _ _ hL zL.1 zL.2.1
  replace F02 := F02.trans F4
  clear F4 S2 z0 z1
  obtain ⟨l, hl⟩ : ∃ l, ls[spot]? = some l := ⟨_, List.getElem?_eq_getElem hsp⟩
  have ll1 := wsz_mem (List.mem_of_getElem? hl)
  refine ⟨_, rfl, _, rfl, L, _, (spot : Int), .str l, rfl, rfl, SqL.of hL, atI_nat (by rw [List.getElem?_map, hl]; rfl), ⟨l, rfl⟩, l, " ", rfl, rfl, by decide +kernel, by omega, fun W nW => ?_⟩
  have ww := split_wt (y := " ") (c := 32) (by decide +kernel) l
  have pw := split_posS l
  generalize Txt.split l " " = ws at ww pw ⊢
  have zW := S4.old nW
  have nW0 := F02.free nW zW.1 zW.2.1
  have neL : L ≠ W := ne_of_none hL nW
  have C5 : ChS H (upd H4 W (.lst (ws.map V.str))) st g c L W _ ls ws := ⟨S4.put zW, F02.out nW0, (upd_ne neL).trans hL, upd_same, nL0, nW0, zL, zW, neL⟩
  generalize upd H4 W (.lst (ws.map V.str)) = H5 at C5 ⊢
  clear S4 F02 hL nW
  have lw := wsz_len ws
  refine ⟨_, rfl, _, rfl, W, _, rfl, .inl (SqL.of C5.hW), st, g, c, _, (((ws.map V.str).length : Nat) : Int), rfl, C5.S, by omega, by rw [List.length_map]; omega, by rw [List.length_map]; omega, fun z H6 z0 z1 S6 F6 => ?_⟩
  rw [List.length_map] at z1
  obtain ⟨k, rfl⟩ := Int.eq_ofNat_of_zero_le z0
  have hk : k < ws.length := by omega
  have C6 := C5.draw S6 F6
  clear C5 S6 F6
  -- way 2
  refine ⟨fun σ' H' => ∃ (o8 : Option V) (ws' : List Str), σ' = [some (.ref st), some (.str t), some (.int way), some (.int at_), some (.ref L), some (.int (spot : Int)), some (.ref W), some (.int (k : Int)), o8] ∧ ChS H H' st g c L W (n + 6) ls ws' ∧ wsz ws' ≤ wsz ws + 6, ?_, ?_⟩
  · refine ⟨_, rfl, rfl, _, rfl, ite2 (fun _ => ?_) (fun _ => ⟨_, ws, rfl, C6.mono (by omega), by omega⟩)⟩
    refine ⟨by decide, fun q nq => ?_⟩
    have zq := C6.S.old nq
    have hq : upd H6 q (.lst [.str "0", .str "1", .str "2", .str "5", .str "6", .str "9999", .str "10000", .str "00", .str "", .str "-1"]) q = some _ := upd_same
    have C7 := C6.put (o := .lst [.str "0", .str "1", .str "2", .str "5", .str "6", .str "9999", .str "10000", .str "00", .str "", .str "-1"]) nq
    generalize upd H6 q (.lst [.str "0", .str "1", .str "2", .str "5", .str "6", .str "9999", .str "10000", .str "00", .str "", .str "-1"]) = H7 at hq C7 ⊢
    refine ⟨_, rfl, by decide, fun q2 nq2 => ?_⟩
    have hq2 : upd H7 q2 (.lst [.str "call", .str "back", .str "done", .str "end", .str "deep", .str "start"]) q2 = some _ := upd_same
    have C8 := C7.put (o := .lst [.str "call", .str "back", .str "done", .str "end", .str "deep", .str "start"]) nq2
    replace hq := (upd_ne (o := .lst [.str "call", .str "back", .str "done", .str "end", .str "deep", .str "start"]) (ne_of_none hq nq2)).trans hq
    generalize upd H7 q2 (.lst [.str "call", .str "back", .str "done", .str "end", .str "deep", .str "start"]) = H8 at hq hq2 C8 ⊢
    refine ⟨_, rfl, q2, q, _, _, rfl, rfl, hq2, hq, by decide, fun q3 nq3 => ?_⟩
    have zq3 := C8.S.old nq3
    refine ⟨st, g, c, q3, _, _, rfl, (C8.put nq3).S, by omega, upd_same, zq3.2.1, by decide, by decide, fun x H9 hx S9 F9 => ?_⟩
    obtain ⟨y, rfl, hy⟩ := sh_mem (by decide +kernel) hx
    have C9 := (C8.put nq3).draw S9 F9
    refine ⟨_, rfl, _, rfl, W, _, (k : Int), k, rfl, rfl, C9.hW, by rw [List.length_map]; exact ixN_lt hk, ?_⟩
    rw [← List.map_set]
    have := wsz_set ws k y
    exact ⟨_, ws.set k y, rfl, (C9.setW).mono (by omega), by omega⟩
  rintro σ' H7 ⟨o8, ws7, rfl, C7, w7⟩
  clear C6 hk pw lw
  -- way 3
  refine ⟨fun σ' H' => ∃ (o8 : Option V) (W' : Addr) (ws' : List Str), σ' = [some (.ref st), some (.str t), some (.int way), some (.int at_), some (.ref L), some (.int (spot : Int)), some (.ref W'), some (.int (k : Int)), o8] ∧ ChS H H' st g c L W' (n + 6) ls ws' ∧ wsz ws' ≤ 2 * wsz ws7, ?_, ?_⟩
  · refine ⟨_, rfl, rfl, _, rfl, ite2 (fun _ => ?_) (fun _ => ⟨_, W, ws7, rfl, C7, by omega⟩)⟩
    obtain ⟨m1, e1, b1, c1⟩ := cut_strs ws7 none (some (k : Int))
    obtain ⟨m2, e2, b2, c2⟩ := cut_strs ws7 (some ((k : Int) + 1)) none
    refine ⟨_, rfl, _, rfl, _, rfl, W, _, rfl, SqL.of C7.hW, fun q1 n1 => ?_⟩
    rw [e1]
    have h1 : upd H7 q1 (.lst (m1.map V.str)) q1 = some (.lst (m1.map V.str)) := upd_same
    have C8 := C7.put (o := .lst (m1.map V.str)) n1
    generalize upd H7 q1 (.lst (m1.map V.str)) = H8 at h1 C8 ⊢
    refine ⟨_, rfl, _, rfl, _, _, rfl, rfl, _, rfl, W, _, rfl, SqL.of C8.hW, fun q2 n2 => ?_⟩
    rw [e2]
    have h2 : upd H8 q2 (.lst (m2.map V.str)) q2 = some (.lst (m2.map V.str)) := upd_same
    have C9 := C8.put (o := .lst (m2.map V.str)) n2
    replace h1 := (upd_ne (o := .lst (m2.map V.str)) (ne_of_none h1 n2)).trans h1
    generalize upd H8 q2 (.lst (m2.map V.str)) = H9 at h1 h2 C9 ⊢
    have lw7 := wsz_len ws7
    refine ⟨q1, q2, _, _, rfl, rfl, h1, h2, by rw [List.length_map, List.length_map]; omega, fun q3 n3 => ?_⟩
    rw [← List.map_append]
    have h3 : upd H9 q3 (.lst ((m1 ++ m2).map V.str)) q3 = some (.lst ((m1 ++ m2).map V.str)) := upd_same
    exact ⟨_, q3, m1 ++ m2, rfl, (C9.put n3).newW h3 (C9.free n3) (C9.S.old n3) (ne_of_none C9.hL n3), by rw [wsz_app]; omega⟩
  rintro σ' H8 ⟨o8, W8, ws8, rfl, C8, w8⟩
  clear C7
  -- way 4
  refine ⟨fun σ' H' => ∃ (o8 : Option V) (W' : Addr) (ws' : List Str), σ' = [some (.ref st), some (.str t), some (.int way), some (.int at_), some (.ref L), some (.int (spot : Int)), some (.ref W'), some (.int (k : Int)), o8] ∧ ChS H H' st g c L W' (n + 7) ls ws' ∧ wsz ws' ≤ wsz ws8 + 6, ?_, ?_⟩
  · refine ⟨_, rfl, rfl, _, rfl, ite2 (fun _ => ?_) (fun _ => ⟨_, W8, ws8, rfl, C8.mono (by omega), by omega⟩)⟩
    refine ⟨_, rfl, _, rfl, by decide, fun q nq => ?_⟩
    have zq := C8.S.old nq
    refine ⟨st, g, c, q, _, _, rfl, (C8.put nq).S, by omega, upd_same, zq.2.1, by decide, by decide, fun x H9 hx S9 F9 => ?_⟩
    obtain ⟨y, rfl, hy⟩ := sh_mem (by decide +kernel) hx
    have C9 := (C8.put nq).draw S9 F9
    refine ⟨(by show 1 ≤ sizeLine; omega), fun q1 n1 => ?_⟩
    have h1 : upd H9 q1 (.lst [.str y]) q1 = some (.lst [.str y]) := upd_same
    have C10 := C9.put (o := .lst [.str y]) n1
    generalize upd H9 q1 (.lst [.str y]) = H10 at h1 C10 ⊢
    have lw8 := wsz_len ws8
    refine ⟨W8, q1, _, _, rfl, rfl, C10.hW, h1, by rw [List.length_map]; show _ + 1 ≤ _; omega, fun q3 n3 => ?_⟩
    have ea : ws8.map V.str ++ [V.str y] = (ws8 ++ [y]).map V.str := by rw [List.map_append]; rfl
    rw [ea]
    have h3 : upd H10 q3 (.lst ((ws8 ++ [y]).map V.str)) q3 = some (.lst ((ws8 ++ [y]).map V.str)) := upd_same
    exact ⟨_, q3, ws8 ++ [y], rfl, ((C10.put n3).newW h3 (C10.free n3) (C10.S.old n3) (ne_of_none C10.hL n3)).mono (by omega), by rw [wsz_app, wsz_cons]; show _ + (_ + 0) ≤ _; omega⟩
  rintro σ' H9 ⟨o9, W9, ws9, rfl, C9, w9⟩
  clear C8
  -- the line is put in
  have jb := join_wt (y := " ") (c := 32) (by decide +kernel) ws9
  have a1 : (" " : Str).length = 1 := by decide +kernel
  have sw := wsz_sum ws9
  refine ⟨⟨_, rfl⟩, _, rfl, _, W9, ws9, rfl, rfl, .inl (SqL.of C9.hW), by rw [a1]; omega, ?_⟩
  refine ⟨_, rfl, _, rfl, L, _, (spot : Int), spot, rfl, rfl, C9.hL, by rw [List.length_map]; exact ixN_lt hsp, ?_⟩
  rw [← List.map_set]
  have C10 := C9.setL (ms := ls.set spot (Txt.join " " ws9))
  have w10 := wsz_set ls spot (Txt.join " " ws9)
  have l10 : spot < (ls.set spot (Txt.join " " ws9)).length := by rw [List.length_set]; exact hsp
  generalize ls.set spot (Txt.join " " ws9) = ls' at C10 w10 l10 ⊢
  generalize upd H9 L (.lst (ls'.map V.str)) = H10 at C10 ⊢
  clear C9 hl hsp
  have b10 : wsz ls' ≤ 3 * t.length + 30 := by omega
  clear w10 w9 w8 w7 jb sw ww wl ll ll1 pl
  have ll' := wsz_len ls'
  -- way 5
  refine ⟨fun σ' H' => ∃ (o8 : Option V) (L' : Addr) (ls2 : List Str), σ' = [some (.ref st), some (.str t), some (.int way), some (.int at_), some (.ref L'), some (.int (spot : Int)), some (.ref W9), some (.int (k : Int)), o8] ∧ ChS H H' st g c L' W9 (n + 7) ls2 ws9 ∧ ((way = 5 ∧ wsz ls2 ≤ 2 * wsz ls') ∨ (way ≠ 5 ∧ ls2 = ls')), ?_, ?_⟩
  · refine ⟨_, rfl, rfl, _, rfl, ite2 (fun w5 => ?_) (fun w5 => ⟨_, L, ls', rfl, C10, .inr ⟨(fun e => w5 (by rw [e]; rfl)), rfl⟩⟩)⟩
    obtain ⟨m1, e1, b1, c1⟩ := cut_strs ls' none (some (spot : Int))
    obtain ⟨m2, e2, b2, c2⟩ := cut_strs ls' (some ((spot : Int) + 1)) none
    refine ⟨_, rfl, _, rfl, _, rfl, L, _, rfl, SqL.of C10.hL, fun q1 n1 => ?_⟩
    rw [e1]
    have h1 : upd H10 q1 (.lst (m1.map V.str)) q1 = some (.lst (m1.map V.str)) := upd_same
    have C11 := C10.put (o := .lst (m1.map V.str)) n1
    generalize upd H10 q1 (.lst (m1.map V.str)) = H11 at h1 C11 ⊢
    refine ⟨_, rfl, _, rfl, _, _, rfl, rfl, _, rfl, L, _, rfl, SqL.of C11.hL, fun q2 n2 => ?_⟩
    rw [e2]
    have h2 : upd H11 q2 (.lst (m2.map V.str)) q2 = some (.lst (m2.map V.str)) := upd_same
    have C12 := C11.put (o := .lst (m2.map V.str)) n2
    replace h1 := (upd_ne (o := .lst (m2.map V.str)) (ne_of_none h1 n2)).trans h1
    generalize upd H11 q2 (.lst (m2.map V.str)) = H12 at h1 h2 C12 ⊢
    refine ⟨q1, q2, _, _, rfl, rfl, h1, h2, by rw [List.length_map, List.length_map]; omega, fun q3 n3 => ?_⟩
    rw [← List.map_append]
    have h3 : upd H12 q3 (.lst ((m1 ++ m2).map V.str)) q3 = some (.lst ((m1 ++ m2).map V.str)) := upd_same
    exact ⟨_, q3, m1 ++ m2, rfl, (C12.put n3).newL h3 (C12.free n3) (C12.S.old n3) (ne_of_none C12.hW n3).symm, .inl ⟨by simpa using w5, by rw [wsz_app]; omega⟩⟩
  rintro σ' H11 ⟨o11, L11, ls11, rfl, C11, w11⟩
  clear C10
  -- way 6
  refine ⟨fun σ' H' => ∃ (o8 : Option V) (L' : Addr) (ls2 : List Str), σ' = [some (.ref st), some (.str t), some (.int way), some (.int at_), some (.ref L'), some (.int (spot : Int)), some (.ref W9), some (.int (k : Int)), o8] ∧ ChS H H' st g c L' W9 (n + 7) ls2 ws9 ∧ wsz ls2 ≤ 3 * wsz ls', ?_, ?_⟩
  · refine ⟨_, rfl, rfl, _, rfl, ite2 (fun w6 => ?_) (fun w6 => ⟨_, L11, ls11, rfl, C11, by rcases w11 with ⟨_, h⟩ | ⟨_, h⟩ <;> first | omega | (rw [h]; omega)⟩)⟩
    have e6 : way = 6 := by simpa using w6
    obtain ⟨_, rfl⟩ : way ≠ 5 ∧ ls11 = ls' := by
      rcases w11 with ⟨h, _⟩ | h
      · omega
      · exact h
    obtain ⟨m1, e1, b1, c1⟩ := cut_strs ls11 none (some (spot : Int))
    obtain ⟨m2, e2, b2, c2⟩ := cut_strs ls11 (some (spot : Int)) none
    obtain ⟨y, hy⟩ : ∃ y, ls11[spot]? = some y := ⟨_, List.getElem?_eq_getElem l10⟩
    have ly := wsz_mem (List.mem_of_getElem? hy)
    refine ⟨_, rfl, _, rfl, _, rfl, L11, _, rfl, SqL.of C11.hL, fun q1 n1 => ?_⟩
    rw [e1]
    have h1 : upd H11 q1 (.lst (m1.map V.str)) q1 = some (.lst (m1.map V.str)) := upd_same
    have C12 := C11.put (o := .lst (m1.map V.str)) n1
    generalize upd H11 q1 (.lst (m1.map V.str)) = H12 at h1 C12 ⊢
    refine ⟨_, rfl, _, rfl, L11, _, (spot : Int), .str y, rfl, rfl, SqL.of C12.hL, atI_nat (by rw [List.getElem?_map, hy]; rfl), (by show 1 ≤ sizeLine; omega), fun q2 n2 => ?_⟩
    have h2 : upd H12 q2 (.lst [.str y]) q2 = some (.lst [.str y]) := upd_same
    have C13 := C12.put (o := .lst [.str y]) n2
    replace h1 := (upd_ne (o := .lst [.str y]) (ne_of_none h1 n2)).trans h1
    generalize upd H12 q2 (.lst [.str y]) = H13 at h1 h2 C13 ⊢
    refine ⟨q1, q2, _, _, rfl, rfl, h1, h2, by rw [List.length_map]; show _ + 1 ≤ _; omega, fun q3 n3 => ?_⟩
    have ea : m1.map V.str ++ [V.str y] = (m1 ++ [y]).map V.str := by rw [List.map_append]; rfl
    rw [ea]
    have h3 : upd H13 q3 (.lst ((m1 ++ [y]).map V.str)) q3 = some (.lst ((m1 ++ [y]).map V.str)) := upd_same
    have C14 := C13.put (o := .lst ((m1 ++ [y]).map V.str)) n3
    generalize upd H13 q3 (.lst ((m1 ++ [y]).map V.str)) = H14 at h3 C14 ⊢
    refine ⟨_, rfl, _, rfl, _, rfl, L11, _, rfl, SqL.of C14.hL, fun q4 n4 => ?_⟩
    rw [e2]
    have h4 : upd H14 q4 (.lst (m2.map V.str)) q4 = some (.lst (m2.map V.str)) := upd_same
    have C15 := C14.put (o := .lst (m2.map V.str)) n4
    replace h3 := (upd_ne (o := .lst (m2.map V.str)) (ne_of_none h3 n4)).trans h3
    generalize upd H14 q4 (.lst (m2.map V.str)) = H15 at h3 h4 C15 ⊢
    refine ⟨q3, q4, _, _, rfl, rfl, h3, h4, by rw [List.length_map, List.length_map, List.length_append]; show _ + 1 + _ ≤ _; omega, fun q5 n5 => ?_⟩
    rw [← List.map_append]
    have h5 : upd H15 q5 (.lst ((m1 ++ [y] ++ m2).map V.str)) q5 = some (.lst ((m1 ++ [y] ++ m2).map V.str)) := upd_same
    exact ⟨_, q5, m1 ++ [y] ++ m2, rfl, (C15.put n5).newL h5 (C15.free n5) (C15.S.old n5) (ne_of_none C15.hW n5).symm, by rw [wsz_app, wsz_app, wsz_cons]; show _ + (_ + 0) + _ ≤ _; omega⟩
  rintro σ' H12 ⟨o12, L12, ls12, rfl, C12, w12⟩
  have jb := join_wt (y := "\n") (c := 10) (by decide +kernel) ls12
  have a2 : ("\n" : Str).length = 1 := by decide +kernel
  have sw := wsz_sum ls12
  refine ⟨⟨_, rfl⟩, _, rfl, _, L12, ls12, rfl, rfl, .inl (SqL.of C12.hL), by rw [a2]; omega, ?_⟩
  exact done (by omega) (by omega) C12.S C12.F
end
end OH
end
section
set_option Elab.async false
set_option linter.all false
set_option maxRecDepth 100000
set_option maxHeartbeats 8000000
/-! Long rows. -/
namespace OH
open PySem PySem.Spec PyProof.Rows L2
theorem bB_num {i : Int} (h : bB 10000 i = true) : 0 ≤ i ∧ i ≤ 9999 := by
  have h' : (decide (0 ≤ i) && decide (i < 10000)) = true := h
  rw [Bool.and_eq_true, decide_eq_true_eq, decide_eq_true_eq] at h'
  omega
theorem bB_six {i : Int} (h : bB 6 i = true) : 0 ≤ i ∧ i ≤ 9999 := by
  have h' : (decide (0 ≤ i) && decide (i < 6)) = true := h
  rw [Bool.and_eq_true, decide_eq_true_eq, decide_eq_true_eq] at h'
  omega
theorem form_nums {x : Crs} (h : formB x = true) : ∀ i ∈ x.is, 0 ≤ i ∧ i ≤ 9999 := by
  cases x with
  | start n =>
    intro i hi
    have hi' : i ∈ [n] := hi
    rw [List.mem_singleton.mp hi']
    exact bB_num h
  | call a b d n =>
    have h' : (bB 6 a && bB 6 b && bB 6 d && bB 10000 n && !decide (a = b)) = true := h
    simp only [Bool.and_eq_true] at h'
    intro i hi
    have hi' : i ∈ [a, b, d, n] := hi
    simp only [List.mem_cons, List.not_mem_nil, or_false] at hi'
    rcases hi' with rfl | rfl | rfl | rfl
    · exact bB_six h'.1.1.1.1
    · exact bB_six h'.1.1.1.2
    · exact bB_six h'.1.1.2
    · exact bB_num h'.1.2
  | back a b n =>
    have h' : (bB 6 a && bB 6 b && bB 10000 n && !decide (a = b)) = true := h
    simp only [Bool.and_eq_true] at h'
    intro i hi
    have hi' : i ∈ [a, b, n] := hi
    simp only [List.mem_cons, List.not_mem_nil, or_false] at hi'
    rcases hi' with rfl | rfl | rfl
    · exact bB_six h'.1.1.1
    · exact bB_six h'.1.1.2
    · exact bB_num h'.1.2
  | deep a b d n =>
    have h' : (bB 6 a && bB 6 b && bB 6 d && bB 10000 n && !decide (a = b)) = true := h
    simp only [Bool.and_eq_true] at h'
    intro i hi
    have hi' : i ∈ [a, b, d, n] := hi
    simp only [List.mem_cons, List.not_mem_nil, or_false] at hi'
    rcases hi' with rfl | rfl | rfl | rfl
    · exact bB_six h'.1.1.1.1
    · exact bB_six h'.1.1.1.2
    · exact bB_six h'.1.1.2
    · exact bB_num h'.1.2
  | done n =>
    intro i hi
    have hi' : i ∈ [n] := hi
    rw [List.mem_singleton.mp hi']
    exact bB_num h
  | fin a =>
    intro i hi
    have hi' : i ∈ [a] := hi
    rw [List.mem_singleton.mp hi']
    exact bB_six h
theorem go_nums : ∀ (xs : List Crs) (w : Wk) (s : Rs), WS w s → goodGo w xs = true → ∀ x ∈ xs, ∀ i ∈ x.is, 0 ≤ i ∧ i ≤ 9999
  | [], _, _, _, _ => fun x hx => absurd hx List.not_mem_nil
  | x :: xs, w, s, h, hg => by
    have hg' : (canC w x && goodGo (tk w x) xs) = true := hg
    rw [Bool.and_eq_true] at hg'
    intro y hy
    rcases List.mem_cons.mp hy with rfl | hy
    · have hc := hg'.1
      rw [h.can, Bool.and_eq_true] at hc
      exact form_nums hc.1
    · exact go_nums xs _ _ (h.step hg'.1) hg'.2 y hy
theorem good_nums {cs : List Crs} (h : goodB cs = true) : ∀ x ∈ cs, ∀ i ∈ x.is, 0 ≤ i ∧ i ≤ 9999 := by
  cases cs with
  | nil => cases h
  | cons x xs =>
    have h' : (true && (canC w0 x && goodGo (tk w0 x) xs)) = true := h
    rw [Bool.true_and, Bool.and_eq_true] at h'
    obtain ⟨n, rfl⟩ := can_w0 h'.1
    intro y hy
    rcases List.mem_cons.mp hy with rfl | hy
    · have hc := h'.1
      rw [canC_first] at hc
      have hn : NumB n = true := hc
      rw [NumB_4] at hn
      intro i hi
      have hi' : i ∈ [n] := hi
      rw [List.mem_singleton.mp hi']
      exact bB_num hn
    · exact go_nums xs _ _ (ws_start n) h'.2 y hy
theorem num_ok {n : Int} (h0 : 0 ≤ n) (h1 : n ≤ 9999) : NumB n = true := by
  show (decide (0 ≤ n) && decide (n ≤ 9999)) = true
  rw [decide_eq_true h0, decide_eq_true h1]
  rfl
theorem dor_ok {n : Int} (h0 : 0 ≤ n) (h1 : n ≤ 5) : dorB n = true := by
  show (decide (0 ≤ n) && decide (n ≤ 5)) = true
  rw [decide_eq_true h0, decide_eq_true h1]
  rfl
theorem lr_call {r n : Int} {as : List (Int × Int)} (hl : as.length < 60) (r0 : 0 ≤ r) (r1 : r ≤ 1) (n0 : 0 ≤ n) (n1 : n ≤ 9999) : canC ⟨some r, as, false⟩ (.call r (1 - r) 0 n) = true := by
  rw [canC_run rfl rfl]
  show (decide (as.length < 60) && decide (r = r) && dorB (1 - r) && decide (1 - r ≠ r) && dorB 0 && NumB n) = true
  rw [decide_eq_true hl, decide_eq_true rfl, dor_ok (by omega) (by omega), decide_eq_true (by omega), num_ok n0 n1]
  decide +kernel
theorem lr_back {r n : Int} {as : List (Int × Int)} (hl : 0 < as.length) (n0 : 0 ≤ n) (n1 : n ≤ 9999) : canC ⟨some r, as, false⟩ (.back r (as.getLast?.getD (0, 0)).1 n) = true := by
  rw [canC_run rfl rfl]
  show (decide (0 < as.length) && decide (r = r) && decide ((as.getLast?.getD (0, 0)).1 = (as.getLast?.getD (0, 0)).1) && NumB n) = true
  rw [decide_eq_true hl, decide_eq_true rfl, decide_eq_true rfl, num_ok n0 n1]
  rfl
def spLongR : Sp := fun vs H Q _ => ∃ (st g c : Addr) (n : Nat), vs = [.ref st] ∧ SA H st g c n ∧ n ≤ 700000 ∧
  ∀ (l : Addr) (cs : List Crs) H', H l = none → RwAt H' l cs → goodB cs = true → cs.length ≤ 2000 → SA H' st g c (n + 2) → Fr st g H H' → Q (.ref l) H'
def In01 (as : List (Int × Int)) : Prop := ∀ p ∈ as, 0 ≤ p.1 ∧ p.1 ≤ 1
section
variable {P : Program} {w : World} {K : PySem.W.Frag} {mg : Str → Option Value} {base : Heap}
abbrev nLR : List Str := ["state", "deep", "many", "row", "control", "asks", "down", "at", "crossing"]
theorem sc__law_long_row : FnScope nLR ["state"] (defScope s__law_long_row) := ⟨rfl, rfl, rfl, by decide +kernel, rfl, by decide +kernel, by decide +kernel⟩
theorem ok__law_long_row {f : Addr} {fd : FuncData} (F : Fun K "_law_long_row" "_law_long_row" s__law_long_row f fd) (T : Txt K mg) (DD : DefF P w K mg base CX0 6 "_law_draw" ["state", "room"] spDraw)
    (DB : DefF P w K mg base CX0 6 "_law_behind" ["control", "asks", "crossing"] (spBehind K)) :
    FnOk P w K mg base CX0 7 f fd ["state"] spLongR := by
  refine F.ok sc__law_long_row (fun vs H Q E h => ?_) (fun cdv A outer s H vs Q E hr h => ?_)
  · obtain ⟨st, g, c, n, rfl, _⟩ := h
    rfl
  obtain ⟨st, g, c, n, rfl, S, hn, kk⟩ := h
  have nd := sc__law_long_row.nd
  have sL := sizeLine_eq
  refine ⟨_, pss_cons (ps_par (i := 1) (j := 2) (by rfl) nd rfl rfl (by decide) rfl rfl (pa_cons (pe_op op_add pe_int (pe_cD DD hr rfl pass0 (pa_cons (pv 0) (pa_cons pe_int pa_nil)))) (pa_cons (pe_op op_add pe_int (pe_cD DD hr rfl pass0 (pa_cons (pv 0) (pa_cons pe_int pa_nil)))) pa_nil)) (by rfl))
      (pss_cons (ps_asg (pe_tup (pa_cons (pe_lst (pa_cons (pe_tup (pa_cons pe_str (pa_cons pe_int pa_nil))) pa_nil)) (pa_cons pe_int (pa_cons (pe_lst pa_nil) (pa_cons pe_bl pa_nil))))) (pg_tup (by rfl) (pgs_cons (pg_name (i := 3) nd rfl (Or.inl rfl)) (pgs_cons (pg_name (i := 4) nd rfl (Or.inl rfl)) (pgs_cons (pg_name (i := 5) nd rfl (Or.inl rfl)) (pgs_cons (pg_name (i := 6) nd rfl (Or.inl rfl)) pgs_nil))))))
      (pss_cons (ps_for PassesOwn.never rfl (pi_range1 rfl T.nRange (pa_cons (pv 2) pa_nil)) (pg_name (i := 7) nd rfl (Or.inl rfl))
        (pss_cons (ps_set (i := 6) nd rfl (Or.inl rfl) (pe_up (pe_or (pe_cmpR (op_eqD hr.units) (pv 5) (pe_lst pa_nil) (nomark _)) (pe_one (pe_and (pv 6) (pe_one (pe_cmpR op_lt (pe_callB call_len_seq (by rfl) T.nLen PySem.boot_len (pa_cons (pv 5) pa_nil)) (pv 1) (nomark _))))))))
      (pss_cons (ps_set (i := 8) nd rfl (Or.inl rfl) (pe_tup (pa_cons pe_str (pa_cons (pv 4) (pa_cons (pe_op op_sub pe_int (pv 4)) (pa_cons pe_int (pa_cons (pe_op op_mod (pv 7) pe_int) pa_nil)))))))
      (pss_cons (ps_up (ps_if (pt_not (pt_val (pv 6))) (pss_one (ps_set (i := 8) nd rfl (Or.inl rfl) (pe_tup (pa_cons pe_str (pa_cons (pv 4) (pa_cons (pe_ix ix_tup (pe_ix ix_list (pv 5) (pe_un un_neg pe_int) (fun _ _ => rfl)) pe_int (fun _ _ => rfl)) (pa_cons (pe_op op_mod (pv 7) pe_int) pa_nil))))))) pss_nil))
      (pss_cons (ps_expr (pe_bm PySem.F.plainAttrs_list PySem.F.slot_list_append PySem.F.type_list_append mt_append (pv 3) (pa_cons (pv 8) pa_nil)))
      (pss_one (ps_asg (pe_cD DB hr rfl pass0 (pa_cons (pv 4) (pa_cons (pv 5) (pa_cons (pv 8) pa_nil)))) (pg_tup (by rfl) (pgs_cons (pg_name (i := 4) nd rfl (Or.inl rfl)) (pgs_cons (pg_name (i := 5) nd rfl (Or.inl rfl)) pgs_nil))))))))))
      (pss_one (ps_ret (pv 3))))), ?_⟩
  refine ⟨_, rfl, st, g, c, _, 50, rfl, S, by omega, by decide, by decide, fun d1 H1 d0 d50 S1 F1 => ⟨_, _, rfl, rfl, ?_⟩⟩
  refine ⟨_, rfl, st, g, c, _, 300, rfl, S1, by omega, by decide, by decide, fun d2 H2 m0 m300 S2 F2 => ⟨_, _, rfl, rfl, _, _, rfl, ?_⟩⟩
  have F02 := F1.trans F2
  clear F1 F2 S1
  refine ⟨by decide, fun q nq => ?_⟩
  have zq := S2.old nq
  have hq : upd H2 q (.tup [.str "start", .int 3]) q = some (.tup (Crs.start 3).vs) := upd_same
  have S3 := S2.put (o := .tup [.str "start", .int 3]) zq
  have F03 := F02.trans (Fr.of (sadd (o := .tup [.str "start", .int 3]) (Same.refl H2) nq))
  generalize upd H2 q (.tup [.str "start", .int 3]) = H3 at hq S3 F03 ⊢
  refine ⟨by show 1 ≤ sizeLine; decide, fun R nR => ?_⟩
  have zR := S3.old nR
  have R0 : H R = none := F03.free nR zR.1 zR.2.1
  have s4 := sadd (o := .lst [.ref q]) (Same.refl H3) nR
  have R4 : RwAt (upd H3 R (.lst [.ref q])) R [.start 3] := ⟨[q], upd_same, .cons (s4 _ _ hq) .nil⟩
  have S4 := S3.same s4
  have F04 := F03.trans (Fr.of s4)
  generalize upd H3 R (.lst [.ref q]) = H4 at R4 S4 F04 ⊢
  refine ⟨by decide, fun al nal => ?_⟩
  have s5 := sadd (o := .lst []) (Same.refl H4) nal
  have A5 : AkAt (upd H4 al (.lst [])) al [] := ⟨[], upd_same, .nil⟩
  have nalR : al ≠ R := by
    obtain ⟨ps, r1, _⟩ := R4
    exact (ne_of_none r1 nal).symm
  have R5 := R4.same s5
  have S5 := S4.same s5
  have F05 := F04.trans (Fr.of s5)
  generalize upd H4 al (.lst []) = H5 at A5 R5 S5 F05 ⊢
  refine ⟨by show 4 ≤ sizeLine; decide, fun u nu => ?_⟩
  have s6 := sadd (o := .tup [.ref R, .int 0, .ref al, .bl true]) (Same.refl H5) nu
  have hu : upd H5 u (.tup [.ref R, .int 0, .ref al, .bl true]) u = some (.tup [.ref R, .int 0, .ref al, .bl true]) := upd_same
  have A6 := A5.same s6
  have R6 := R5.same s6
  have S6 := S5.same s6
  have F06 := F05.trans (Fr.of s6)
  generalize upd H5 u (.tup [.ref R, .int 0, .ref al, .bl true]) = H6 at hu A6 R6 S6 F06 ⊢
  clear S2 S3 S4 S5 F02 F03 F04 F05 R4 R5 A5 s4 s5 s6 hq nu nal nR nq
  refine ⟨u, _, rfl, SqT.of hu, rfl, _, _, rfl, _, _, rfl, _, _, rfl, _, _, rfl, rfl, ?_⟩
  refine ⟨_, rfl, _, rfl, by omega, by omega, ?_⟩
  obtain ⟨m, hm⟩ := Int.eq_ofNat_of_zero_le (show (0 : Int) ≤ 1050 + d2 by omega)
  rw [hm, Int.toNat_natCast]
  refine for_range (lo := 0) (n := m) (fun i σ H' => ∃ (r : Int) (as : List (Int × Int)) (al : Addr) (cs : List Crs) (b : Bool) (o7 o8 : Option V), σ = [some (.ref st), some (.int (1 + d1)), some (.int (1050 + d2)), some (.ref R), some (.int r), some (.ref al), some (.bl b), o7, o8] ∧
      SA H' st g c (n + 2) ∧ Fr st g H H' ∧ RwAt H' R cs ∧ AkAt H' al as ∧ al ≠ R ∧ wk w0 cs = ⟨some r, as, false⟩ ∧ goodGo w0 cs = true ∧ cs.length = i + 1 ∧ 0 ≤ r ∧ r ≤ 1 ∧ In01 as ∧ as.length ≤ 51)
    ⟨0, [], al, [.start 3], true, none, none, rfl, S6, F06, R6, A6, nalR, rfl, by decide +kernel, rfl, by decide, by decide, fun p hp => absurd hp List.not_mem_nil, by decide⟩ ?turn ?done
  case done =>
    rintro σ Hz ⟨r, as, al, cs, b, o7, o8, rfl, Sz, Fz, Rz, Az, _, hw, hg, hl, _⟩
    have hgb : goodB cs = true := by
      cases cs with
      | nil => cases hl
      | cons x xs =>
        show (true && goodGo w0 (x :: xs)) = true
        rw [hg]
        rfl
    exact ⟨_, rfl, kk R cs Hz R0 Rz hgb (by omega) Sz Fz⟩
  case turn =>
  rintro i σ Ha hi ⟨r, as, al, cs, b, o7, o8, rfl, Sa, Fa, Ra, Aa, nal, hw, hg, hl, r0, r1, h01, las⟩
  clear R6 A6 S6 F06 hu nalR
  obtain ⟨aps, a1, a2⟩ := id Aa
  have la := a2.len
  refine ⟨fun v H' => ∃ b : Bool, v = .bl b ∧ Same Ha H' ∧ (b = true → as.length ≤ 50) ∧ (b = false → as ≠ []), ?_, ?_⟩
  · refine ⟨_, rfl, by decide, fun e ne => ?_⟩
    have se := sadd (o := .lst []) (Same.refl Ha) ne
    refine ⟨.list (as.map pairD), .list [], .lst (SqL.of (se _ _ a1)) (a2.mono fun q xs z => se _ _ z).dpp, .lst (SqL.of upd_same) .nil, shaped_pairs _, rfl, _, rfl, ?_⟩
    rw [eqv_nil]
    cases has : (as.map pairD).isEmpty with
    | true =>
      refine iteT ⟨true, rfl, se, fun _ => ?_, fun z => nomatch z⟩
      have : as = [] := by
        cases as with
        | nil => rfl
        | cons _ _ => cases has
      rw [this]
      exact Nat.zero_le _
    | false =>
      have hne : as ≠ [] := fun z => by rw [z] at has; cases has
      refine iteF ⟨_, rfl, _, rfl, ?_⟩
      refine ite2 (fun hb => ?_) (fun hb => ⟨false, rfl, se, fun z => (by cases z), fun _ => hne⟩)
      refine ⟨_, rfl, al, _, rfl, .inl (SqL.of (se _ _ a1)), _, rfl, _, _, rfl, rfl, _, rfl, se, fun z => ?_, fun _ => hne⟩
      have := of_decide_eq_true z
      rw [List.length_map] at this
      omega
  rintro v Hb ⟨b', rfl, sb, hb1, hb2⟩
  have Sb := Sa.same sb
  have Fb := Fa.trans (Fr.of sb)
  have Rb := Ra.same sb
  have Ab := Aa.same sb
  clear Sa Fa Ra Aa a1 a2 la aps
  refine ⟨_, rfl, _, rfl, _, _, rfl, rfl, _, rfl, _, _, rfl, rfl, (by show (0 : Int) < 10; decide), by show 5 ≤ sizeLine; decide, fun q nq => ?_⟩
  have i10 : 0 ≤ ((0 + (i : Int)) % 10) ∧ ((0 + (i : Int)) % 10) ≤ 9 := by omega
  have i7 : 0 ≤ ((0 + (i : Int)) % 7) ∧ ((0 + (i : Int)) % 7) ≤ 9 := by omega
  have sc := sadd (o := .tup [.str "call", .int r, .int (1 - r), .int 0, .int ((0 + (i : Int)) % 10)]) (Same.refl Hb) nq
  have hq : upd Hb q (.tup [.str "call", .int r, .int (1 - r), .int 0, .int ((0 + (i : Int)) % 10)]) q = some (.tup (Crs.call r (1 - r) 0 ((0 + (i : Int)) % 10)).vs) := upd_same
  generalize upd Hb q (.tup [.str "call", .int r, .int (1 - r), .int 0, .int ((0 + (i : Int)) % 10)]) = Hc at sc hq ⊢
  have Sc := Sb.same sc
  have Fc := Fb.trans (Fr.of sc)
  have Rc := Rb.same sc
  have Ac := Ab.same sc
  clear Sb Fb Rb Ab sb sc nq
  obtain ⟨aps, a1, a2⟩ := id Ac
  have la := a2.len
  refine ⟨fun σ' H' => ∃ (x : Crs) (q' : Addr), σ' = [some (.ref st), some (.int (1 + d1)), some (.int (1050 + d2)), some (.ref R), some (.int r), some (.ref al), some (.bl b'), some (.int (0 + (i : Int))), some (.ref q')] ∧ Same Hc H' ∧ H' q' = some (.tup x.vs) ∧ canC ⟨some r, as, false⟩ x = true ∧
      ((x = .call r (1 - r) 0 ((0 + (i : Int)) % 10) ∧ as.length ≤ 50) ∨ x = .back r (as.getLast?.getD (0, 0)).1 ((0 + (i : Int)) % 7) ∧ as ≠ []), ?_, ?_⟩
  · refine ⟨_, rfl, _, rfl, ?_⟩
    cases b' with
    | true =>
      have hl := hb1 rfl
      exact iteF ⟨_, q, rfl, Same.refl _, hq, lr_call (by omega) r0 r1 (by omega) (by omega), .inl ⟨rfl, hl⟩⟩
    | false =>
      have hne := hb2 rfl
      refine iteT ?_
      have pos : 0 < as.length := List.length_pos_iff.mpr hne
      obtain ⟨p, hp⟩ : ∃ p, as.getLast? = some p := by
        cases h : as.getLast? with
        | none => exact absurd (List.getLast?_eq_none_iff.mp h) hne
        | some p => exact ⟨p, rfl⟩
      have hp' := hp
      rw [List.getLast?_eq_getElem?] at hp'
      obtain ⟨pq, hpq, e2'⟩ := a2.get hp'
      rw [← la] at hpq
      refine ⟨_, rfl, _, rfl, _, rfl, al, _, -1, .ref pq, rfl, rfl, SqL.of a1, atI_end (by rw [List.length_map, List.getElem?_map, hpq]; rfl), pq, _, 0, _, rfl, rfl, SqT.of e2', rfl, _, rfl, _, _, rfl, rfl, (by show (0 : Int) < 7; decide), (by show 4 ≤ sizeLine; decide), fun u nu => ?_⟩
      refine ⟨.back r (as.getLast?.getD (0, 0)).1 ((0 + (i : Int)) % 7), u, rfl, sadd (Same.refl _) nu, ?_, lr_back pos (by omega) (by omega), .inr ⟨rfl, hne⟩⟩
      rw [upd_same, hp]
      rfl
  rintro σ' Hd ⟨x, q', rfl, sd, hq', hx, hcase⟩
  have Sd := Sc.same sd
  have Fd := Fc.trans (Fr.of sd)
  have Rd := Rc.same sd
  have Ad := Ac.same sd
  clear Sc Fc Rc Ac hq a1 a2 la aps sd hb1 hb2
  obtain ⟨ps, p1, p2⟩ := id Rd
  obtain ⟨ps', q1, q2, q3, q4⟩ := Rd.add hq'
  refine ⟨_, rfl, .inl ⟨rfl, _, SqL.of p1⟩, _, rfl, R, _, _, rfl, rfl, q1, (by rw [List.length_map, q2]; omega), ?_⟩
  have Se := Sd.put (o := .lst (ps'.map V.ref ++ [.ref q'])) zR
  have Fe := Fd.out (o := .lst (ps'.map V.ref ++ [.ref q'])) R0
  have Ae : AkAt (upd Hd R (.lst (ps'.map V.ref ++ [.ref q']))) al as := by
    obtain ⟨as_, a1, a2⟩ := Ad
    exact ⟨as_, (upd_ne nal).trans a1, a2.mono q4⟩
  have hqe := q4 _ _ hq'
  generalize upd Hd R (.lst (ps'.map V.ref ++ [.ref q'])) = He at q3 Se Fe Ae hqe ⊢
  clear Sd Fd Rd Ad q1 q2 q4 p1 p2 ps ps' hq'
  refine ⟨_, rfl, _, rfl, _, rfl, _, al, q', some r, as, x, rfl, Ae, hqe, by omega, fun u al' Hl slk nu nal' hu ak => ?_⟩
  have nRl : al' ≠ R := by
    rcases nal' with h | h
    · rw [h]
      exact nal
    · obtain ⟨ps, r1, _⟩ := q3
      exact (ne_of_none r1 h).symm
  have hw' : wk w0 (cs ++ [x]) = tk ⟨some r, as, false⟩ x := by rw [wk_snoc, hw]
  have hg' : goodGo w0 (cs ++ [x]) = true := by
    rw [goodGo_app, hg, hw]
    show (true && (canC _ x && true)) = true
    rw [hx]
    rfl
  have hl' : (cs ++ [x]).length = i + 1 + 1 := by rw [List.length_append, hl]; rfl
  refine ⟨u, _, rfl, SqT.of hu, rfl, _, _, rfl, _, _, rfl, rfl, ?_⟩
  rcases hcase with ⟨rfl, hle⟩ | ⟨rfl, hne⟩
  · refine ⟨1 - r, as ++ [(r, 1 - r)], al', _, _, _, _, rfl, Se.same slk, Fe.trans (Fr.of slk), q3.same slk, ak, nRl, hw', hg', hl', by omega, by omega, ?_, ?_⟩
    · intro p hp
      rcases List.mem_append.mp hp with hp | hp
      · exact h01 p hp
      · rw [List.mem_singleton.mp hp]
        exact ⟨r0, r1⟩
    · rw [List.length_append]
      show as.length + 1 ≤ 51
      omega
  · have hm1 : 0 ≤ (as.getLast?.getD (0, 0)).1 ∧ (as.getLast?.getD (0, 0)).1 ≤ 1 := by
      cases h : as.getLast? with
      | none => exact absurd (List.getLast?_eq_none_iff.mp h) hne
      | some p => exact h01 p (List.mem_of_getLast? h)
    refine ⟨(as.getLast?.getD (0, 0)).1, as.dropLast, al', _, _, _, _, rfl, Se.same slk, Fe.trans (Fr.of slk), q3.same slk, ak, nRl, hw', hg', hl', hm1.1, hm1.2, ?_, ?_⟩
    · intro p hp
      exact h01 p (List.dropLast_subset _ hp)
    · rw [List.length_dropLast]
      omega
end
end OH
end
section
set_option Elab.async false
set_option linter.all false
set_option maxRecDepth 100000
set_option maxHeartbeats 8000000
/-! Long rows, long words. -/
namespace OH
open PySem PySem.Spec PyProof.Rows L2
open LamX (Tabs TabS ExtN TabB CodeO)
theorem op_mul_str {X : Cx} : OpR X (binaryOp .Mult) (fun x y H Q => ∃ (a : Str) (n : Int), x = .str a ∧ y = .int n ∧ MulOk a n ∧ Q (.str (Txt.mul a n)) H) := by
  intro pins s σ H x y v u Q I rx ry h
  obtain ⟨a, n, rfl, rfl, hz, q⟩ := h
  obtain ⟨t, rfl⟩ := rx
  obtain ⟨t', rfl⟩ := ry
  exact PySem.SB.mul hz (fun t' tk => ⟨.str (Txt.mul a n), H, I.tok _, ⟨_, rfl⟩, q⟩)
theorem foldl_size {α : Type} : ∀ (l : List (Array α)) (a : Array α), (l.foldl (· ++ ·) a).size = a.size + (l.map Array.size).sum
  | [], a => rfl
  | x :: l, a => by
    rw [List.foldl_cons, foldl_size l, Array.size_append, List.map_cons, List.sum_cons]
    omega
theorem mul_len (x : Str) {n : Int} (h : 1 < n) : (Txt.mul x n).length ≤ x.length * n.toNat := by
  unfold Txt.mul
  rw [if_neg (by omega)]
  split
  · rename_i h1
    have h2 : x.length = 0 := by
      rw [Bool.or_eq_true] at h1
      rcases h1 with h1 | h1
      · have := eq_of_beq h1
        omega
      · exact eq_of_beq h1
    rw [h2]
    exact Nat.zero_le _
  · show ((List.replicate n.toNat x.cps).foldl (· ++ ·) #[]).size ≤ x.cps.size * n.toNat
    rw [foldl_size, List.map_replicate, List.sum_replicate_nat]
    show 0 + n.toNat * x.cps.size ≤ _
    rw [Nat.zero_add, Nat.mul_comm]
    exact Nat.le_refl _
theorem mul_ok1 : MulOk "1" 5000 := ⟨by decide, fun _ _ => by decide +kernel, fun _ _ => by decide +kernel⟩
theorem mul_ok9 : MulOk "9" 5000 := ⟨by decide, fun _ _ => by decide +kernel, fun _ _ => by decide +kernel⟩
theorem ci_inj {cs cs' : List Crs} (e : Rt.seq (cs.map Crs.ci) = .seq (cs'.map Crs.ci)) : cs' = cs := by
  have := congrArg (fun r => match r with | Rt.seq xs => xs.filterMap crsX | _ => []) e
  simp only [List.filterMap_map, Function.comp_def, crsX_ci, List.filterMap_some] at this
  exact this.symm
theorem rowT_len {cs : List Crs} (hb : ∀ x ∈ cs, ∀ i ∈ x.is, 0 ≤ i ∧ i ≤ 9999) : (rowT cs).length ≤ 31 * cs.length := by
  have e : (rowT cs).length ≤ wsz (cs.map lineT) := join_wt (y := "\n") (c := 10) (by decide +kernel) _
  refine Nat.le_trans e ?_
  clear e
  induction cs with
  | nil => exact Nat.le_refl _
  | cons x xs ih =>
    rw [List.map_cons, wsz_cons, List.length_cons]
    have h1 := lineT_len (hb x (List.mem_cons_self ..))
    have h2 := ih fun y hy => hb y (List.mem_cons_of_mem _ hy)
    omega
theorem SA.extZ {H H' : Hp} {st g c : Addr} {n : Nat} (s : SA H st g c n) (e : ExtN H H') : SA H' st g c n := by
  obtain ⟨⟨r, t, h1, h2, h3, h4⟩, ⟨gs, g1, g2, g3⟩, ⟨cs, c1, c2, c3⟩, gc⟩ := s
  exact ⟨⟨r, t, h1, h2, h3, e _ _ h4 (fun _ z => nomatch z)⟩, ⟨gs, e _ _ g1 (fun _ z => nomatch z), g2, g3⟩, ⟨cs, e _ _ c1 (fun _ z => nomatch z), c2, c3⟩, gc⟩
theorem tabs_frZ {H H' : Hp} {st g c : Addr} {n : Nat} {T : List (Addr × Str)} (t : Tabs T H) (S : SA H st g c n) (f : Fr st g H H') : Tabs T H' := fun p hp => by
  obtain ⟨ps, h1, h2, h3⟩ := t p hp
  obtain ⟨⟨r, tt, _, _, _, e1⟩, ⟨gs, e2, _⟩, _⟩ := S
  refine ⟨ps, f _ _ h1 (ne_of h1 e1 (fun z => nomatch z)) (ne_of h1 e2 (fun z => nomatch z)), h2, fun pos cv hc => ?_⟩
  obtain ⟨cc, q1, q2⟩ := h3 pos cv hc
  exact ⟨cc, q1, f _ _ q2 (ne_of q2 e1 (fun z => by unfold CodeO at z; cases z)) (ne_of q2 e2 (fun z => by unfold CodeO at z; cases z))⟩
def cl2 (i : Nat) : Crs := .call ((0 + (i : Int)) % 2) (1 - (0 + (i : Int)) % 2) ((0 + (i : Int)) % 6) (0 + (i : Int))
theorem cl2_nums {i : Nat} (h : i < 60) : ∀ j ∈ (cl2 i).is, 0 ≤ j ∧ j ≤ 9999 := by
  intro j hj
  have hj' : j ∈ [(0 + (i : Int)) % 2, 1 - (0 + (i : Int)) % 2, (0 + (i : Int)) % 6, 0 + (i : Int)] := hj
  simp only [List.mem_cons, List.not_mem_nil, or_false] at hj'
  rcases hj' with rfl | rfl | rfl | rfl <;> omega
def spLarge (Ts : List (Addr × Str)) : Sp := fun vs H Q _ => ∃ (st g c : Addr) (n : Nat), vs = [.ref st] ∧ SA H st g c n ∧ n ≤ 700000 ∧ Tabs Ts H ∧ ∀ H', Q (.bl true) H'
section
variable {P : Program} {w : World} {K : PySem.W.Frag} {mg : Str → Option Value} {base : Heap}
abbrev nLH : List Str := ["state", "row", "full", "text", "more", "at"]
theorem sc__law_large_hold : FnScope nLH ["state"] (defScope s__law_large_hold) := ⟨rfl, rfl, rfl, by decide +kernel, rfl, by decide +kernel, by decide +kernel⟩
theorem ok__law_large_hold {f C CB fT fR : Addr} {fd fdT fdR : FuncData} {Ts : List (Addr × Str)} (F : Fun K "_law_large_hold" "_law_large_hold" s__law_large_hold f fd) (T : Txt K mg)
    (DL : DefF P w K mg base CX0 10 "_law_long_row" ["state"] spLongR) (DO : DefF P w K mg base CX0 10 "_law_own_text" ["row"] spOwnT) (DA : DefF P w K mg base CX0 10 "_law_answer_holds" ["text"] (spAnsT Ts))
    (FR : FnOk P w K mg base (L2.CX P w) 7 fR fdR ["text"] (spRowOf C)) (mR : mg "row_of" = some (.ref fR)) (kR : PySem.W.keepIn K (.ref fR) = true) (bR : Binds K fdR ["text"] [])
    (FT : FnOk P w K mg base (L2.CX P w) 6 fT fdT ["row"] (spRowTX CB)) (mT : mg "row_text" = some (.ref fT)) (kT : PySem.W.keepIn K (.ref fT) = true) (bT : Binds K fdT ["row"] []) :
    FnOk P w K mg base CX0 11 f fd ["state"] (spLarge Ts) := by
  refine F.ok sc__law_large_hold (fun vs H Q E h => ?_) (fun cdv A outer s H vs Q E hr h => ?_)
  · obtain ⟨st, g, c, n, rfl, _⟩ := h
    rfl
  obtain ⟨st, g, c, n, rfl, S, hn, hT, kk⟩ := h
  have nd := sc__law_large_hold.nd
  have sL := sizeLine_eq
  refine ⟨_, pss_cons (ps_set (i := 1) nd rfl (Or.inl rfl) (pe_cD DL hr rfl pass0 (pa_cons (pv 0) pa_nil)))
      (pss_cons (ps_if (PW.pt (pw_or (pt_cmpR op_ne (pe_call FT (hr.mono (by decide)) rfl mT kT bT .nil passL (pa_cons (pv 1) pa_nil)) (pe_cD DO hr rfl pass0 (pa_cons (pv 1) pa_nil)) (nomark _)) (pw_or1 (pt_cmpR (op_neD hr.units) (pe_call FR (hr.mono (by decide)) rfl mR kR bR .nil passL (pa_cons (pe_cD DO hr rfl pass0 (pa_cons (pv 1) pa_nil)) pa_nil)) (pv 1) (nomark _))))) (pss_one (ps_ret pe_bl)) pss_nil)
      (pss_cons (ps_set (i := 2) nd rfl (Or.inl rfl) (pe_op op_cat (pe_lst (pa_cons (pe_tup (pa_cons pe_str (pa_cons pe_int pa_nil))) pa_nil)) (pe_lc (own := [("at", 5)]) (g := gName 5) (tt := tYes)  rfl nd (pi_range1 rfl T.nRange (pa_cons pe_int pa_nil)) (blkOk_by (own := [("at", 5)]) (N := nLH) (sc := defScope s__law_large_hold) (by decide +kernel)) (fun _ _ _ _ _ => (pg_name (i := 5) nd rfl (Or.inl rfl))) (fun _ _ _ _ _ => pts_nil) (fun _ _ _ _ _ => (pe_tup (pa_cons pe_str (pa_cons (pe_op op_mod (pv 5) pe_int) (pa_cons (pe_op op_sub pe_int (pe_op op_mod (pv 5) pe_int)) (pa_cons (pe_op op_mod (pv 5) pe_int) (pa_cons (pv 5) pa_nil))))))))))
      (pss_cons (ps_set (i := 3) nd rfl (Or.inl rfl) (pe_cD DO hr rfl pass0 (pa_cons (pv 2) pa_nil)))
      (pss_cons (ps_for PassesOwn.never rfl (pi_list (pe_lst (pa_cons pe_str (pa_cons pe_str (pa_cons pe_str (pa_cons pe_str (pa_cons (pe_op op_add_str pe_str (pe_op op_mul_str pe_str pe_int)) pa_nil))))))) (pg_name (i := 4) nd rfl (Or.inl rfl))
        (pss_one (ps_if (pt_not (pt_val (pe_cD DA hr rfl pass0 (pa_cons (pe_op op_add_str (pv 3) (pv 4)) pa_nil)))) (pss_one (ps_ret pe_bl)) pss_nil)))
      (pss_one (ps_ret pe_bl)))))), ?_⟩
  refine ⟨_, rfl, st, g, c, n, rfl, S, by omega, fun l cs H1 nl hl hg hc S1 F1 => ?_⟩
  have T1 := tabs_frZ hT S F1
  have zl := S.old nl
  have zZ : Zs st g l := ⟨zl.1, zl.2.1⟩
  have hnum := good_nums hg
  have hlen : (rowT cs).length ≤ 62000 := by
    have := rowT_len hnum
    omega
  refine ⟨_, rfl, Zs st g, .ref l, _, rfl, hl.x.rt zZ hc, fun cs' e1 g1 => ?_, fun h1 => absurd h1 (by rw [goodRt_map, hg]; decide)⟩
  obtain rfl := ci_inj e1
  refine ⟨hnum, fun H2 s2 => ?_⟩
  refine ⟨_, rfl, l, cs', rfl, hl.same s2, hc, hnum, fun H3 s3 => ?_⟩
  refine ⟨rfl, _, rfl, ite2 (fun z => absurd z (by simp)) (fun _ => ?_)⟩
  have s13 := s2.trans s3
  refine ⟨_, rfl, l, cs', rfl, hl.same s13, hc, hnum, fun H4 s4 => ?_⟩
  refine ⟨.str (rowT cs'), rfl, trivial, fun z => absurd rfl (z _), fun t' et => ?_⟩
  cases et
  have hrd := read_rowT hg hnum
  refine ⟨by omega, ?_, ?_⟩
  · intro k2 c2 e2
    rw [hrd] at e2
    cases e2
  intro cs2 e2 l2 H5 s5 nl2 hl2
  rw [hrd] at e2
  cases e2
  have s15 := (s13.trans s4).trans s5
  obtain ⟨us, u1, u2⟩ := hl2
  obtain ⟨ps, q1, q2⟩ := hl.same s15
  refine ⟨_, rfl, .list (cs'.map Crs.d), .list (cs'.map Crs.d), .lst (SqL.of u1) u2.rowdp, .lst (SqL.of q1) q2.rowdp, shaped_row cs', shaped_row cs', _, rfl, ?_⟩
  rw [row_eqv, decide_eq_true rfl]
  refine iteF ?_
  have T5 := T1.ext s15
  clear u1 u2 us q1 q2 ps s2 s3 s4 s5 s13 hl hrd nl2 hlen hnum S1 F1 T1 hT S hg hc zZ
  -- sixty open asks
  refine ⟨by show 2 ≤ sizeLine; decide, fun q nq => ?_⟩
  have s6 := sadd (o := .tup [.str "start", .int 7]) (Same.refl H5) nq
  have hq : upd H5 q (.tup [.str "start", .int 7]) q = some (.tup (Crs.start 7).vs) := upd_same
  generalize upd H5 q (.tup [.str "start", .int 7]) = H6 at hq s6 ⊢
  refine ⟨by show 1 ≤ sizeLine; decide, fun q1 nq1 => ?_⟩
  have s7 := sadd (o := .lst [.ref q]) (Same.refl H6) nq1
  have hq1 : upd H6 q1 (.lst [.ref q]) q1 = some (.lst [.ref q]) := upd_same
  have hq7 := s7 _ _ hq
  have T7 := T5.ext (s6.trans s7)
  generalize upd H6 q1 (.lst [.ref q]) = H7 at hq1 hq7 s7 T7 ⊢
  refine ⟨_, rfl, by decide, by decide, fun D nD => ?_⟩
  refine lc_range (lo := 0) (n := 60) (fun i H' => Same H7 H' ∧ ∃ zs : List Addr, H' D = some (.lst (zs.map V.ref)) ∧ AllAt H' Crs.vs zs ((List.range i).map cl2))
    ⟨sadd (Same.refl H7) nD, [], upd_same, .nil⟩ ?turn ?done
  case turn =>
    rintro i Ha hi ⟨sa, zs, hD, hz⟩
    refine ⟨rfl, ?_⟩
    unfold tYes
    refine iteT ?_
    refine ⟨_, rfl, _, _, rfl, rfl, (by show (0 : Int) < 2; decide), _, rfl, _, _, rfl, rfl, (by show (0 : Int) < 2; decide), _, _, rfl, rfl, _, rfl, _, _, rfl, rfl, (by show (0 : Int) < 6; decide), _, rfl, (by show 5 ≤ sizeLine; decide), fun u nu => ?_⟩
    have su := sadd (o := .tup (cl2 i).vs) (Same.refl Ha) nu
    have hu : upd Ha u (.tup (cl2 i).vs) u = some (.tup (cl2 i).vs) := upd_same
    have lz := hz.len
    rw [List.length_map, List.length_range] at lz
    refine ⟨_, su _ _ hD, by rw [List.length_map]; omega, sout (sa.trans su) nD, zs ++ [u], by rw [upd_same, List.map_append]; rfl, ?_⟩
    rw [List.range_succ, List.map_append]
    have kt : ∀ q xs, upd Ha u (.tup (cl2 i).vs) q = some (.tup xs) → upd (upd Ha u (.tup (cl2 i).vs)) D (.lst (zs.map V.ref ++ [.ref u])) q = some (.tup xs) := fun q xs e => (upd_ne (ne_of e (su _ _ hD) (fun z => nomatch z))).trans e
    exact (hz.mono fun q xs e => kt _ _ (su _ _ e)).app (kt _ _ hu)
  case done =>
  rintro H8 ⟨s8, zs, hD, hz⟩
  refine ⟨q1, D, _, _, rfl, rfl, s8 _ _ hq1, hD, by rw [List.length_map, hz.len, List.length_map, List.length_range]; show 1 + 60 ≤ _; omega, fun p np => ?_⟩
  have s9 := sadd (o := .lst ((q :: zs).map V.ref)) (Same.refl H8) np
  have hp : RwAt (upd H8 p (.lst ((q :: zs).map V.ref))) p (.start 7 :: (List.range 60).map cl2) := ⟨q :: zs, upd_same, .cons (s9 _ _ (s8 _ _ hq7)) (hz.mono fun q xs e => s9 _ _ e)⟩
  have hnum : ∀ x ∈ (Crs.start 7 :: (List.range 60).map cl2), ∀ i ∈ x.is, 0 ≤ i ∧ i ≤ 9999 := by
    intro x hx
    rcases List.mem_cons.mp hx with rfl | hx
    · intro i hi
      have hi' : i ∈ [(7 : Int)] := hi
      rw [List.mem_singleton.mp hi']
      decide
    · obtain ⟨j, hj, rfl⟩ := List.mem_map.mp hx
      exact cl2_nums (List.mem_range.mp hj)
  have hl : (Crs.start 7 :: (List.range 60).map cl2).length = 61 := by rw [List.length_cons, List.length_map, List.length_range]
  have T9 := T7.ext (s8.trans s9)
  have eq9 : upd H8 p (.lst ([.ref q] ++ zs.map V.ref)) = upd H8 p (.lst ((q :: zs).map V.ref)) := rfl
  rw [eq9]
  generalize upd H8 p (.lst ((q :: zs).map V.ref)) = H9 at hp T9 s9 ⊢
  generalize (Crs.start 7 :: (List.range 60).map cl2) = fs at hp hnum hl ⊢
  clear s8 s9 hq hq1 hq7 s6 s7 T7 T5 hD hz np nD nq nq1
  refine ⟨_, rfl, p, fs, rfl, hp, by omega, hnum, fun H10 s10 => ?_⟩
  have hlen : (rowT fs).length ≤ 31 * 61 := by
    have := rowT_len hnum
    rw [hl] at this
    exact this
  have T10 := T9.ext s10
  clear hp T9 s10 hnum hl
  generalize rowT fs = tx at hlen ⊢
  have ml := mul_len "1" (n := 5000) (by decide)
  have l1 : ("1" : Str).length = 1 := by decide +kernel
  rw [l1] at ml
  refine ⟨_, _, rfl, rfl, mul_ok1, ?_⟩
  generalize Txt.mul "1" 5000 = bg at ml ⊢
  have l9 : ("\nback 0 1 " : Str).length = 10 := by decide +kernel
  have ml' : bg.length ≤ 5000 := ml
  refine ⟨_, _, rfl, rfl, by rw [l9]; omega, ?_⟩
  refine ⟨by show 5 ≤ sizeLine; decide, fun b nb => ?_⟩
  have sb := sadd (o := .lst [.str "", .str "\ncall 0 1 0 1", .str "\ndeep 0 1 0 1", .str "\nback 0 1 5", .str ("\nback 0 1 " ++ bg)]) (Same.refl H10) nb
  have hb : upd H10 b (.lst [.str "", .str "\ncall 0 1 0 1", .str "\ndeep 0 1 0 1", .str "\nback 0 1 5", .str ("\nback 0 1 " ++ bg)]) b = some (.lst [.str "", .str "\ncall 0 1 0 1", .str "\ndeep 0 1 0 1", .str "\nback 0 1 5", .str ("\nback 0 1 " ++ bg)]) := upd_same
  have hall : ∀ x ∈ [V.str "", .str "\ncall 0 1 0 1", .str "\ndeep 0 1 0 1", .str "\nback 0 1 5", .str ("\nback 0 1 " ++ bg)], ∃ y : Str, x = .str y ∧ y.length ≤ 5010 := by
    intro x hx
    simp only [List.mem_cons, List.not_mem_nil, or_false] at hx
    rcases hx with rfl | rfl | rfl | rfl | rfl
    · exact ⟨_, rfl, by decide +kernel⟩
    · exact ⟨_, rfl, by decide +kernel⟩
    · exact ⟨_, rfl, by decide +kernel⟩
    · exact ⟨_, rfl, by decide +kernel⟩
    · exact ⟨_, rfl, by rw [Str.length_append, l9]; omega⟩
  have Tb := T10.ext sb
  refine ⟨b, rfl, ⟨_, SqL.of hb⟩, ?_⟩
  generalize upd H10 b (.lst [.str "", .str "\ncall 0 1 0 1", .str "\ndeep 0 1 0 1", .str "\nback 0 1 5", .str ("\nback 0 1 " ++ bg)]) = H11 at hb Tb ⊢
  generalize [V.str "", .str "\ncall 0 1 0 1", .str "\ndeep 0 1 0 1", .str "\nback 0 1 5", .str ("\nback 0 1 " ++ bg)] = xs at hb hall ⊢
  refine for_list (xs := xs) (fun i σ H' => ∃ o4 : Option V, σ = [some (.ref st), some (.ref l), some (.ref p), some (.str tx), o4, none] ∧ H' b = some (.lst xs) ∧ Tabs Ts H') ⟨none, rfl, hb, Tb⟩ (fun i σ H' _ h => by obtain ⟨_, _, h, _⟩ := h; exact SqL.of h) ?turn2 ?done2
  case done2 =>
    rintro σ Hz ⟨o4, rfl, _, _⟩
    exact kk Hz
  case turn2 =>
    rintro i x σ Ha hx ⟨o4, rfl, hba, Ta⟩
    obtain ⟨y, rfl, hy⟩ := hall x (List.mem_of_getElem? hx)
    refine ⟨_, rfl, _, rfl, _, _, rfl, rfl, by omega, _, rfl, by rw [Str.length_append]; omega, Ta, fun Hb eb Tb' => ⟨_, rfl, iteF ?_⟩⟩
    exact ⟨_, rfl, eb _ _ hba (fun _ z => nomatch z), Tb'⟩
end
end OH
end
section
set_option Elab.async false
set_option linter.all false
set_option maxRecDepth 100000
set_option maxHeartbeats 16000000
/-! The law. -/
namespace OH
open PySem PySem.Spec PyProof.Rows L2
open LamX (Tabs TabS ExtN TabB CodeO)
theorem RwAt.extZ {H H' : Hp} {l : Addr} {cs : List Crs} (h : RwAt H l cs) (e : ExtN H H') : RwAt H' l cs := by
  obtain ⟨ps, h1, h2⟩ := h
  exact ⟨ps, e _ _ h1 (fun _ z => nomatch z), h2.mono fun q xs x => e _ _ x (fun _ z => nomatch z)⟩
theorem RwAt.frZ {H H' : Hp} {st g c l : Addr} {n : Nat} {cs : List Crs} (h : RwAt H l cs) (S : SA H st g c n) (F : Fr st g H H') (z : l ≠ st ∧ l ≠ g) : RwAt H' l cs := by
  obtain ⟨ps, h1, h2⟩ := h
  exact ⟨ps, F _ _ h1 z.1 z.2, h2.mono fun q xs x => fr_tup S F _ _ x⟩
section
variable {Z : Addr → Prop} {H H' : Hp} {v : V}
theorem Oth.ext (h : Oth Z H v) (s : ExtN H H') : Oth Z H' v := by
  rcases h with h | h | h | ⟨p, xs, e, z, a⟩ | ⟨p, xs, e, z, a⟩
  · exact .inl h
  · exact .inr (.inl h)
  · exact .inr (.inr (.inl h))
  · exact .inr (.inr (.inr (.inl ⟨p, xs, e, z, s _ _ a (fun _ z => nomatch z)⟩)))
  · exact .inr (.inr (.inr (.inr ⟨p, xs, e, z, s _ _ a (fun _ z => nomatch z)⟩)))
theorem CiAt.ext {x : Ci} (h : CiAt Z H v x) (s : ExtN H H') : CiAt Z H' v x := by
  cases x with
  | tup xs => obtain ⟨p, e, a, l⟩ := h; exact ⟨p, e, s _ _ a (fun _ z => nomatch z), l⟩
  | oth => exact Oth.ext h s
theorem CisAt.ext {vs : List V} {xs : List Ci} (h : CisAt Z H vs xs) (s : ExtN H H') : CisAt Z H' vs xs := by
  induction h with
  | nil => exact .nil
  | cons a _ ih => exact .cons (a.ext s) ih
theorem RtAt.ext {r : Rt} (h : RtAt Z H v r) (s : ExtN H H') : RtAt Z H' v r := by
  cases r with
  | seq cs => obtain ⟨p, vs, e, z, a, b⟩ := h; exact ⟨p, vs, e, z, a.elim (fun a => .inl (s _ _ a (fun _ z => nomatch z))) (fun a => .inr (s _ _ a (fun _ z => nomatch z))), b.1.ext s, b.2⟩
  | oth =>
    rcases h with h | h | ⟨p, xs, e, z, a⟩
    · exact .inl h
    · exact .inr (.inl h)
    · exact .inr (.inr ⟨p, xs, e, z, s _ _ a (fun _ z => nomatch z)⟩)
end
theorem goodGo_no_start {w : Wk} {r : Int} {as : List (Int × Int)} (h : WS w (some r, as) ∨ ∃ s, WS w s) (n : Int) : canC w (.start n) = false := by
  obtain ⟨s, hs⟩ : ∃ s, WS w s := h.elim (fun h => ⟨_, h⟩) id
  rw [hs.can]
  show (_ && false) = false
  rw [Bool.and_false]
theorem ws_walk : ∀ (xs : List Crs) (w : Wk) (s : Rs), WS w s → goodGo w xs = true → ∃ s', WS (wk w xs) s'
  | [], _, _, h, _ => ⟨_, h⟩
  | x :: xs, w, s, h, hg => by
    have hg' : (canC w x && goodGo (tk w x) xs) = true := hg
    rw [Bool.and_eq_true] at hg'
    exact ws_walk xs _ _ (h.step hg'.1) hg'.2
theorem bad_again {cs : List Crs} (h : goodB cs = true) (n : Int) : goodB (cs ++ [.start n]) = false := by
  cases cs with
  | nil => cases h
  | cons x xs =>
    have h' : (true && (canC w0 x && goodGo (tk w0 x) xs)) = true := h
    rw [Bool.true_and, Bool.and_eq_true] at h'
    obtain ⟨m, rfl⟩ := can_w0 h'.1
    obtain ⟨s', hs'⟩ := ws_walk xs _ _ (ws_start m) h'.2
    show (true && (canC w0 (.start m) && goodGo (tk w0 (.start m)) (xs ++ [.start n]))) = false
    rw [goodGo_app]
    have e : goodGo (wk (tk w0 (.start m)) xs) [.start n] = false := by
      show (canC (wk (tk w0 (.start m)) xs) (.start n) && true) = false
      rw [hs'.can]
      show ((_ && false) && true) = false
      rw [Bool.and_false]
      rfl
    rw [e, Bool.and_false, Bool.and_false]
    rfl
def spLawT (K : PySem.W.Frag) (T : List (Addr × Str)) : Sp := fun vs H Q _ => ∃ (a : Addr) (ns : List Int), vs = [.ref a] ∧ SqL K H a (ns.map V.int) ∧ ns.length ≤ 63 ∧ Tabs T H ∧ ∀ H', Q (.bl true) H'
section
variable {P : Program} {w : World} {K : PySem.W.Frag} {mg : Str → Option Value} {base : Heap}
abbrev nLaw : List Str := ["script", "state", "face", "row", "text", "turn", "changed", "other", "caught", "word"]
theorem sc_law : FnScope nLaw ["script"] (defScope s_law) := ⟨rfl, rfl, rfl, by decide +kernel, rfl, by decide +kernel, by decide +kernel⟩
theorem ok_law {f c0 Pt CO C CB fC fR fT : Addr} {fdC fdR fdT : FuncData} {Ts : List (Addr × Str)} {oc : Value} {od an : Option Addr} {kV doc pm ct : Value} {osl : Array (Option Value)}
    (lk : K.lookup f = some ⟨oc, od, .func (PySem.W.fnOf "law" "law" (defArgs s_law) (defBody s_law) (defScope s_law) .none kV doc pm an (.ref c0) ct), osl⟩) (hcd : PySem.W.codeIn K (.ref c0) "law" = true)
    (T : Txt K mg) (TB : TabB base mg c0 Pt) (hT : ((Pt, "law.<locals>.<lambda>") : Addr × Str) ∈ Ts) (hu : ∀ p ∈ Ts, p.1 = Pt → p.2 = "law.<locals>.<lambda>")
    (TL : ErrF P K mg "BadText" "line" C) (TC : ErrF P K mg "BadText" "column" C) (gO : mg "OwnharmError" = some (.ref CO)) (mO : PySem.W.exmOne K (.ref C) (.ref CO) = some true) (iB : PySem.W.kitOne K (.ref C) (.ref C) = some true)
    (EB : ErrC K mg "BadRow" CB) (XB : ExcC K CB) (mOB : PySem.W.exmOne K (.ref CB) (.ref CO) = some true) (iBB : PySem.W.kitOne K (.ref CB) (.ref CB) = some true)
    (FR : FnOk P w K mg base (L2.CX P w) 7 fR fdR ["text"] (spRowOf C)) (mR : mg "row_of" = some (.ref fR)) (kR : PySem.W.keepIn K (.ref fR) = true) (bR : Binds K fdR ["text"] [])
    (FT : FnOk P w K mg base (L2.CX P w) 6 fT fdT ["row"] (spRowTX CB)) (mT : mg "row_text" = some (.ref fT)) (kT : PySem.W.keepIn K (.ref fT) = true) (bT : Binds K fdT ["row"] []) (kbT : KBinds K fdT ["row"] ["row"] kw0 kw0)
    (FC : Fun K "_law_caught" "_law_caught" s__law_caught fC fdC) (mC : mg "_law_caught" = some (.ref fC)) (bC : Binds K fdC ["action"] [])
    (DB : DefF P w K mg base CX0 12 "_law_begun" ["script"] (spBegun K)) (DD : DefF P w K mg base CX0 12 "_law_draw" ["state", "room"] spDraw)
    (DFc : DefF P w K mg base CX0 12 "_law_drawn_face" ["state", "most"] (spFaceD 1 6)) (DOf : DefF P w K mg base CX0 12 "_law_open_face" ["state", "many"] (spFaceD 2 4))
    (DRw : DefF P w K mg base CX0 12 "_law_drawn_row" ["state", "face", "most"] spRowD) (DO : DefF P w K mg base CX0 12 "_law_own_text" ["row"] spOwnT)
    (DC : DefF P w K mg base CX0 12 "_law_changed" ["state", "text"] spChanged) (DA : DefF P w K mg base CX0 12 "_law_answer_holds" ["text"] (spAnsT Ts)) (DLh : DefF P w K mg base CX0 12 "_law_large_hold" ["state"] (spLarge Ts)) :
    FnOk P w K mg base CX0 13 f (PySem.W.fnOf "law" "law" (defArgs s_law) (defBody s_law) (defScope s_law) .none kV doc pm an (.ref c0) ct) ["script"] (spLawT K Ts) := by
  obtain ⟨oC, oD, kVC, docC, pmC, anC, cdC, ctC, oslC, rfl, lkC, cgC⟩ := FC.ex
  refine fn_of lk hcd sc_law (fun vs H Q E h => ?_) fun A outer s H vs Q E hr h => ?_
  · obtain ⟨a, ns, rfl, _⟩ := h
    rfl
  obtain ⟨a, ns, rfl, ha, hns, hTb, k⟩ := h
  have nd := sc_law.nd
  have sL := sizeLine_eq
  refine (fun (main : ∃ t, PSs (cxOf CX0 P w K mg base nLaw "law" (defScope s_law) f (.ref c0) A outer s H E).nox (defBody s_law) t ∧
      t { nx := fun _ H' => Q .non H', rt := Q } (L2.start nLaw [.ref a]) H) => (by obtain ⟨t, h1, h2⟩ := main; exact ⟨t, h1.nox, h2⟩)) ?_
  refine ⟨_, pss_cons (ps_set (i := 1) nd rfl (Or.inl rfl) (pe_cD DB hr rfl pass0 (pa_cons (pv 0) pa_nil)))
      (pss_cons (ps_set (i := 2) nd rfl (Or.inl rfl) (pe_up (pe_ifExp (pt_cmpR op_eq (pe_cD DD hr rfl pass0 (pa_cons (pv 1) (pa_cons pe_int pa_nil))) pe_int (nomark _)) (pe_cD DFc hr rfl pass0 (pa_cons (pv 1) (pa_cons pe_int pa_nil))) (pe_cD DOf hr rfl pass0 (pa_cons (pv 1) (pa_cons (pe_op op_add pe_int (pe_cD DD hr rfl pass0 (pa_cons (pv 1) (pa_cons pe_int pa_nil)))) pa_nil))))))
      (pss_cons (ps_set (i := 3) nd rfl (Or.inl rfl) (pe_cD DRw hr rfl pass0 (pa_cons (pv 1) (pa_cons (pv 2) (pa_cons pe_int pa_nil)))))
      (pss_cons (ps_set (i := 4) nd rfl (Or.inl rfl) (pe_cD DO hr rfl pass0 (pa_cons (pv 3) pa_nil)))
      (pss_cons (ps_if (PW.pt (pw_or (pt_cmpR op_ne (pe_callK0 FT (hr.mono (by decide)) rfl mT kT kbT passL (pk_cons (pv 3) pk_nil)) (pv 4) (nomark _)) (pw_or1 (pt_cmpR op_ne (pe_call FT (hr.mono (by decide)) rfl mT kT bT .nil passL (pa_cons (pe_callTy call_tuple_of (by rfl) T.nTuple (by decide +kernel) (pa_cons (pv 3) pa_nil)) pa_nil)) (pv 4) (nomark _))))) (pss_one (ps_ret pe_bl)) pss_nil)
      (pss_cons (ps_if (PW.pt (pw_or (pt_cmpR (op_neD hr.units) (pe_call FR (hr.mono (by decide)) rfl mR kR bR .nil passL (pa_cons (pv 4) pa_nil)) (pv 3) (nomark _)) (pw_or1 (pt_not (pt_val (pe_callB call_isi (by rfl) T.nIsi (by decide +kernel) (pa_cons (pe_call FR (hr.mono (by decide)) rfl mR kR bR .nil passL (pa_cons (pv 4) pa_nil)) (pa_cons (pe_bltn (v := .ty "list") (by rfl) T.nList (by decide +kernel) rfl) pa_nil)))))))) (pss_one (ps_ret pe_bl)) pss_nil)
      (pss_cons (ps_for PassesOwn.never rfl (pi_range1 rfl T.nRange (pa_cons pe_int pa_nil)) (pg_name (i := 5) nd rfl (Or.inl rfl))
        (pss_cons (ps_set (i := 6) nd rfl (Or.inl rfl) (pe_cD DC hr rfl pass0 (pa_cons (pv 1) (pa_cons (pv 4) pa_nil))))
      (pss_cons (ps_up (ps_if (pt_cmpR op_eq (pe_cD DD hr rfl pass0 (pa_cons (pv 1) (pa_cons pe_int pa_nil))) pe_int (nomark _)) (pss_one (ps_set (i := 6) nd rfl (Or.inl rfl) (pe_cD DC hr rfl pass0 (pa_cons (pv 1) (pa_cons (pv 6) pa_nil))))) pss_nil))
      (pss_one (ps_if (pt_not (pt_val (pe_cD DA hr rfl pass0 (pa_cons (pv 6) pa_nil)))) (pss_one (ps_ret pe_bl)) pss_nil)))))
      (pss_cons (ps_for PassesOwn.never rfl (pi_list (pe_lst (pa_cons pe_non (pa_cons pe_int (pa_cons (pe_lst (pa_cons pe_str pa_nil)) (pa_cons (pv 3) pa_nil)))))) (pg_name (i := 7) nd rfl (Or.inr rfl))
        (pss_cons (ps_set (i := 8) nd rfl (Or.inl rfl) (LamX.pe_lamcall (k := 7) (params := _) (t := fun E => _) rfl mC FC.kp lkC cgC bC sc__law_caught rfl (Or.inl rfl) (caught_givesJ gO) TB rfl hT hu (hr.mono (by decide))
        (LamX.lamS_by (by show LamX.lamSB (defScope s_law) _ = true; decide +kernel)) rfl (fun _ _ _ _ _ => rfl)
        (fun A outer s H E f c' hr2 => (pe_callS FR (hr2.mono (by decide)) rfl mR kR bR (fun σ => L2.passAt (takes_of rfl rfl rfl rfl) σ) (pa_cons (pv 7) pa_nil)))))
      (pss_one (ps_if (PW.pt (pw_or (pt_not (pt_val (pe_callB (call_isJA TL.i) (by rfl) T.nIsi (by decide +kernel) (pa_cons (pv 8) (pa_cons (pe_glob (v := .ref C) rfl TL.g rfl) pa_nil))))) (pw_or1 (pt_cmpR (op_neD hr.units) (pe_tup (pa_cons (pe_heldf TL.f (pv 8)) (pa_cons (pe_heldf TC.f (pv 8)) pa_nil))) (pe_tup (pa_cons pe_int (pa_cons pe_int pa_nil))) (nomark _))))) (pss_one (ps_ret pe_bl)) pss_nil))))
      (pss_cons (ps_for PassesOwn.never rfl (pi_list (pe_lst (pa_cons pe_non (pa_cons (pe_lst pa_nil) (pa_cons (pv 4) (pa_cons (pe_op op_cat (pv 3) (pe_lst (pa_cons (pe_tup (pa_cons pe_str (pa_cons pe_int pa_nil))) pa_nil))) (pa_cons (pe_lst (pa_cons (pe_callTy call_list_of (by rfl) T.nList (by decide +kernel) (pa_cons (pe_ix ix_list (pv 3) pe_int (fun _ _ => rfl)) pa_nil)) pa_nil)) pa_nil))))))) (pg_name (i := 7) nd rfl (Or.inr rfl))
        (pss_one (ps_if (pt_not (pt_val (pe_callB (call_isJA XB) (by rfl) T.nIsi (by decide +kernel) (pa_cons (LamX.pe_lamcall (k := 7) (params := _) (t := fun E => _) rfl mC FC.kp lkC cgC bC sc__law_caught rfl (Or.inl rfl) (caught_givesJ gO) TB rfl hT hu (hr.mono (by decide))
        (LamX.lamS_by (by show LamX.lamSB (defScope s_law) _ = true; decide +kernel)) rfl (fun _ _ _ _ _ => rfl)
        (fun A outer s H E f c' hr2 => (pe_callS FT (hr2.mono (by decide)) rfl mT kT bT (fun σ => L2.passAt (takes_of rfl rfl rfl rfl) σ) (pa_cons (pv 7) pa_nil)))) (pa_cons (pe_glob (v := .ref CB) rfl EB.g rfl) pa_nil))))) (pss_one (ps_ret pe_bl)) pss_nil)))
      (pss_cons (ps_for PassesOwn.never rfl (pi_list (pe_lst (pa_cons pe_str (pa_cons pe_str (pa_cons pe_str (pa_cons pe_str (pa_cons pe_str (pa_cons pe_str (pa_cons pe_str (pa_cons (pe_op op_mul_str pe_str pe_int) (pa_cons pe_str pa_nil))))))))))) (pg_name (i := 9) nd rfl (Or.inl rfl))
        (pss_one (ps_if (pt_not (pt_val (pe_cD DA hr rfl pass0 (pa_cons (pe_op op_add_str pe_str (pv 9)) pa_nil)))) (pss_one (ps_ret pe_bl)) pss_nil)))
      (pss_cons (ps_if (PW.pt (pw_or (pt_not (pt_val (pe_cD DA hr rfl pass0 (pa_cons pe_str pa_nil)))) (pw_or (pt_not (pt_val (pe_cD DA hr rfl pass0 (pa_cons pe_str pa_nil)))) (pw_or1 (pt_not (pt_val (pe_cD DA hr rfl pass0 (pa_cons pe_str pa_nil)))))))) (pss_one (ps_ret pe_bl)) pss_nil)
      (pss_one (ps_ret (pe_or (pe_cmpR op_gt (pe_cD DD hr rfl pass0 (pa_cons (pv 1) (pa_cons pe_int pa_nil))) pe_int (nomark _)) (pe_one (pe_cD DLh hr rfl pass0 (pa_cons (pv 1) pa_nil)))))))))))))))), ?_⟩
  refine ⟨_, rfl, a, ns, rfl, ha, hns, fun st g c H1 n1 n2 n3 s1 S1 => ?_⟩
  have T1 := hTb.ext s1
  refine ⟨fun v H' => ∃ (p : Addr) (F : Fc), v = .ref p ∧ FcAt H' p F ∧ SA H' st g c 500 ∧ Fr st g H1 H', ?_, ?_⟩
  · refine ⟨_, rfl, st, g, c, _, 2, rfl, S1, by omega, by decide, by decide, fun u H2 u0 u1 S2 F2 => ⟨rfl, _, rfl, ite2 (fun _ => ?_) (fun _ => ?_)⟩⟩
    · exact ⟨_, rfl, st, g, c, _, 6, rfl, S2, by omega, by decide, by decide, fun p F H3 np hf S3 F3 => ⟨p, F, rfl, hf, S3.mono (by omega), F2.trans F3⟩⟩
    · refine ⟨_, rfl, _, rfl, st, g, c, _, 3, rfl, S2, by omega, by decide, by decide, fun z H3 z0 z1 S3 F3 => ?_⟩
      refine ⟨_, _, rfl, rfl, st, g, c, _, _, rfl, S3, by omega, by omega, by omega, fun p F H4 np hf S4 F4 => ⟨p, F, rfl, hf, S4.mono (by omega), (F2.trans F3).trans F4⟩⟩
  rintro v H2 ⟨p, F, rfl, hf, S2, F2⟩
  have T2 := tabs_frZ T1 S1 F2
  have hF := hf.ok
  refine ⟨_, rfl, _, rfl, st, g, c, p, _, F, 10, rfl, S2, hf, by omega, by decide, by decide, fun l cs H3 nl hl hv hc S3 F3 => ?_⟩
  have zl := S2.old nl
  have T3 := tabs_frZ T2 S2 F3
  have hg := (hv.good hF).1
  have hc11 : cs.length ≤ 11 := by omega
  have zZ : Zs st g l := ⟨zl.1, zl.2.1⟩
  have hnum := good_nums hg
  have lne : cs ≠ [] := fun e => by rw [e] at hg; cases hg
  replace S3 := S3.mono (m := 1000) (by omega)
  clear S2 F2 F3 T1 T2 S1 hf nl hTb hv s1
  -- the text
  refine ⟨_, rfl, l, cs, rfl, hl, by omega, hnum, fun H4 s4 => ?_⟩
  have hlen : (rowT cs).length ≤ 341 := by
    have := rowT_len hnum
    omega
  have hrd := read_rowT hg hnum
  replace hl := hl.same s4
  replace S3 := S3.same s4
  replace T3 := T3.ext s4
  clear s4
  refine ⟨_, rfl, Zs st g, .ref l, _, rfl, hl.x.rt zZ (by omega), fun cs' e1 g1 => ?_, fun h1 => absurd h1 (by rw [goodRt_map, hg]; decide)⟩
  obtain rfl := ci_inj e1
  refine ⟨hnum, fun H5 s5 => ?_⟩
  replace hl := hl.same s5
  replace S3 := S3.same s5
  replace T3 := T3.ext s5
  clear s5
  refine ⟨_, rfl, rfl, _, rfl, ite2 (fun z => absurd z (by simp)) (fun _ => ?_)⟩
  obtain ⟨ps, h1, h2⟩ := id hl
  refine ⟨_, rfl, l, _, rfl, .inl ⟨SqL.of h1, fun t nt => ?_⟩⟩
  have ot := S3.old nt
  have s6 := sadd (o := .tup (ps.map V.ref)) (Same.refl H5) nt
  have ft : upd H5 t (.tup (ps.map V.ref)) t = some (.tup (ps.map V.ref)) := upd_same
  have hx6 : RwX (upd H5 t (.tup (ps.map V.ref))) t cs' := ⟨ps, .inr ft, h2.mono fun q xs e => s6 _ _ e⟩
  replace hl := hl.same s6
  replace S3 := S3.same s6
  replace T3 := T3.ext s6
  generalize upd H5 t (.tup (ps.map V.ref)) = H6 at hx6 hl S3 T3 ⊢
  clear s6 ft h1 h2 nt ps
  refine ⟨Zs st g, .ref t, _, rfl, hx6.rt ⟨ot.1, ot.2.1⟩ (by omega), fun cs2 e1 g1 => ?_, fun h1 => absurd h1 (by rw [goodRt_map, hg]; decide)⟩
  obtain rfl := ci_inj e1
  refine ⟨hnum, fun H7 s7 => ?_⟩
  replace hl := hl.same s7
  replace S3 := S3.same s7
  replace T3 := T3.ext s7
  clear s7 hx6
  refine ⟨_, rfl, rfl, _, rfl, ite2 (fun z => absurd z (by simp)) (fun _ => ?_)⟩
  -- read back
  refine ⟨_, rfl, .str (rowT cs2), rfl, trivial, fun z => absurd rfl (z _), fun t' et => ?_⟩
  cases et
  refine ⟨by omega, ?_, ?_⟩
  · intro k2 c2 e2
    rw [hrd] at e2
    cases e2
  intro cs3 e3 l2 H8 s8 nl2 hl2
  rw [hrd] at e3
  cases e3
  replace hl := hl.same s8
  replace S3 := S3.same s8
  replace T3 := T3.ext s8
  clear s8
  obtain ⟨us, u1, u2⟩ := hl2
  obtain ⟨ps, q1, q2⟩ := id hl
  refine ⟨_, rfl, .list (cs2.map Crs.d), .list (cs2.map Crs.d), .lst (SqL.of u1) u2.rowdp, .lst (SqL.of q1) q2.rowdp, shaped_row cs2, shaped_row cs2, _, rfl, ?_⟩
  rw [row_eqv, decide_eq_true rfl]
  refine iteF ?_
  clear u1 u2 us q1 q2 ps
  refine ⟨_, rfl, .str (rowT cs2), rfl, trivial, fun z => absurd rfl (z _), fun t' et => ?_⟩
  cases et
  refine ⟨by omega, ?_, ?_⟩
  · intro k2 c2 e2
    rw [hrd] at e2
    cases e2
  intro cs3 e3 l3 H9 s9 nl3 hl3
  rw [hrd] at e3
  cases e3
  replace hl := hl.same s9
  replace S3 := S3.same s9
  replace T3 := T3.ext s9
  clear s9
  obtain ⟨us, u1, u2⟩ := hl3
  refine ⟨_, _, _, _, _, rfl, .ty "list", .base (.lst u1), kit_ty (r := true) (by decide +kernel), _, rfl, iteF ?_⟩
  clear u1 u2 us
  generalize rowT cs2 = tx at hlen ⊢
  -- eight changes
  refine ⟨_, rfl, by decide, by decide, ?_⟩
  refine for_range (lo := 0) (n := 8) (fun i σ H' => ∃ o5 o6 : Option V, σ = [some (.ref a), some (.ref st), some (.ref p), some (.ref l), some (.str tx), o5, o6, none, none, none] ∧ RwAt H' l cs2 ∧ SA H' st g c (1000 + 100 * i) ∧ Tabs Ts H') ⟨none, none, rfl, hl, S3.mono (by omega), T3⟩ ?turn ?done
  case turn =>
    rintro i σ Ha hi ⟨o5, o6, rfl, hla, Sa, Ta⟩
    refine ⟨_, rfl, _, rfl, st, g, c, _, tx, rfl, Sa, by omega, by omega, fun t1 Hb l1 Sb Fb => ?_⟩
    have hlb := hla.frZ Sa Fb zZ
    have Tb := tabs_frZ Ta Sa Fb
    refine ⟨fun σ' H' => ∃ t2 : Str, σ' = [some (.ref a), some (.ref st), some (.ref p), some (.ref l), some (.str tx), some (.int (0 + (i : Int))), some (.str t2), none, none, none] ∧ t2.length ≤ 90000 ∧ RwAt H' l cs2 ∧ SA H' st g c (1000 + 100 * i + 50) ∧ Tabs Ts H', ?_, ?_⟩
    · refine ⟨_, rfl, st, g, c, _, 4, rfl, Sb, by omega, by decide, by decide, fun u Hc _ _ Sc Fc => ⟨rfl, _, rfl, ?_⟩⟩
      have hlc := hlb.frZ Sb Fc zZ
      have Tc := tabs_frZ Tb Sb Fc
      refine ite2 (fun _ => ?_) (fun _ => ⟨t1, rfl, by omega, hlc, Sc.mono (by omega), Tc⟩)
      refine ⟨_, rfl, _, rfl, st, g, c, _, t1, rfl, Sc, by omega, by omega, fun t2 Hd l2 Sd Fd => ?_⟩
      exact ⟨t2, rfl, by omega, hlc.frZ Sc Fd zZ, Sd.mono (by omega), tabs_frZ Tc Sc Fd⟩
    rintro σ' Hc ⟨t2, rfl, l2, hlc, Sc, Tc⟩
    refine ⟨_, rfl, t2, rfl, l2, Tc, fun Hd ed Td => ⟨_, rfl, iteF ?_⟩⟩
    exact ⟨_, _, rfl, hlc.extZ ed, (Sc.extZ ed).mono (by omega), Td⟩
  case done =>
  rintro σ H10 ⟨o5, o6, rfl, hl', S10, T10⟩
  clear hl S3 T3
  obtain ⟨x0, xs0, ec⟩ : ∃ x0 xs0, cs2 = x0 :: xs0 := by
    cases cs2 with
    | nil => exact absurd rfl lne
    | cons x xs => exact ⟨x, xs, rfl⟩
  -- values that are no strings
  refine ⟨by show 1 ≤ sizeLine; decide, fun q1 m1 => ?_⟩
  have sa := sadd (o := .lst [.str "start 0"]) (Same.refl H10) m1
  have hq1 : upd H10 q1 (.lst [.str "start 0"]) q1 = some (.lst [.str "start 0"]) := upd_same
  replace hl' := hl'.same sa
  replace S10 := S10.same sa
  replace T10 := T10.ext sa
  generalize upd H10 q1 (.lst [.str "start 0"]) = H11 at hq1 hl' S10 T10 ⊢
  clear sa m1
  refine ⟨_, rfl, by show 4 ≤ sizeLine; decide, fun b nb => ?_⟩
  have sb := sadd (o := .lst [.non, .int 5, .ref q1, .ref l]) (Same.refl H11) nb
  have hb : upd H11 b (.lst [.non, .int 5, .ref q1, .ref l]) b = some (.lst [.non, .int 5, .ref q1, .ref l]) := upd_same
  replace hl' := hl'.same sb
  replace S10 := S10.same sb
  replace T10 := T10.ext sb
  replace hq1 := sb _ _ hq1
  generalize upd H11 b (.lst [.non, .int 5, .ref q1, .ref l]) = H12 at hb hq1 hl' S10 T10 ⊢
  clear sb nb
  refine ⟨b, rfl, ⟨_, SqL.of hb⟩, ?_⟩
  refine for_list (xs := [.non, .int 5, .ref q1, .ref l]) (fun i σ H' => ∃ o7 o8 : Option V, σ = [some (.ref a), some (.ref st), some (.ref p), some (.ref l), some (.str tx), o5, o6, o7, o8, none] ∧ RwAt H' l cs2 ∧ SA H' st g c 2000 ∧ Tabs Ts H' ∧ H' q1 = some (.lst [.str "start 0"]) ∧ H' b = some (.lst [.non, .int 5, .ref q1, .ref l]))
    ⟨none, none, rfl, hl', S10.mono (by omega), T10, hq1, hb⟩ (fun i σ H' _ h => by obtain ⟨_, _, _, _, _, _, _, h⟩ := h; exact SqL.of h) ?turn2 ?done2
  case turn2 =>
    rintro i x σ Ha hx ⟨o7, o8, rfl, hla, Sa, Ta, hqa, hba⟩
    have pl : ∀ G : Hp, ExtN Ha G → PlV G x ∧ ∀ t, x ≠ .str t := fun G e => by
      have hm := List.mem_of_getElem? hx
      simp only [List.mem_cons, List.not_mem_nil, or_false] at hm
      rcases hm with rfl | rfl | rfl | rfl
      · exact ⟨trivial, fun t z => nomatch z⟩
      · exact ⟨trivial, fun t z => nomatch z⟩
      · exact ⟨.inr ⟨_, e _ _ hqa (fun _ z => nomatch z)⟩, fun t z => nomatch z⟩
      · obtain ⟨ps, h1, h2⟩ := hla
        exact ⟨.inr ⟨_, e _ _ h1 (fun _ z => nomatch z)⟩, fun t z => nomatch z⟩
    refine ⟨Ta, fun H4 e4 T4 Q' hQ' => ⟨_, rfl, x, rfl, (pl H4 e4).1, fun _ d H5 s5 nd5 => ⟨mO, fun ex nex => ?_⟩, fun t' et => absurd et ((pl H4 e4).2 t')⟩⟩
    have s9 := sadd (o := .xd [("column", .int 1), ("line", .int 1)]) s5 nd5
    have h9 : upd H5 d (.xd [("column", .int 1), ("line", .int 1)]) d = some (.xd [("column", .int 1), ("line", .int 1)]) := upd_same
    generalize upd H5 d (.xd [("column", .int 1), ("line", .int 1)]) = H9 at nex h9 s9 ⊢
    have s10 := sadd (o := ExJ (.ref C) (some d) ex) (Same.refl H9) nex
    have h10 : upd H9 ex (ExJ (.ref C) (some d) ex) ex = some (ExJ (.ref C) (some d) ex) := upd_same
    replace h9 := s10 _ _ h9
    replace s10 := s9.trans s10
    generalize upd H9 ex (ExJ (.ref C) (some d) ex) = Hz at h9 h10 s10 ⊢
    have held : Held Hz ex C (some [(("column" : Str), .int 1), (("line" : Str), .int 1)]) := ⟨d, h10, h9⟩
    refine ⟨_, rfl, some _, ex, .ref C, .ref C, true, rfl, held, fun u z => z, iB, _, rfl, iteF ?_⟩
    refine ⟨_, rfl, ex, _, .int 1, rfl, held, rfl, _, rfl, ex, _, .int 1, rfl, held, rfl, (by show 2 ≤ sizeLine; decide), fun u nu => ?_⟩
    have s11 := sadd (o := .tup [.int 1, .int 1]) (Same.refl Hz) nu
    have h11 : upd Hz u (.tup [.int 1, .int 1]) u = some (.tup [.int 1, .int 1]) := upd_same
    generalize upd Hz u (.tup [.int 1, .int 1]) = Hu at s11 h11 ⊢
    refine ⟨by show 2 ≤ sizeLine; decide, fun u2 nu2 => ?_⟩
    have s12 := sadd (o := .tup [.int 1, .int 1]) (Same.refl Hu) nu2
    have h12 : upd Hu u2 (.tup [.int 1, .int 1]) u2 = some (.tup [.int 1, .int 1]) := upd_same
    replace h11 := s12 _ _ h11
    generalize upd Hu u2 (.tup [.int 1, .int 1]) = Hv at s12 h11 h12 ⊢
    have ee := e4.trans (extN_of ((s10.trans s11).trans s12))
    refine ⟨pairD (1, 1), pairD (1, 1), .tup (SqT.of h11) (.cons (.int _) (.cons (.int _) .nil)), .tup (SqT.of h12) (.cons (.int _) (.cons (.int _) .nil)), shaped_pair _ _, shaped_pair _ _, _, rfl, ?_⟩
    rw [eqv_shZ (shaped_pair _ _)]
    exact iteF ⟨_, _, rfl, hla.extZ ee, Sa.extZ ee, T4.ext ((s10.trans s11).trans s12), ee _ _ hqa (fun _ z => nomatch z), ee _ _ hba (fun _ z => nomatch z)⟩
  case done2 =>
  rintro σ H13 ⟨o7, o8, rfl, hl2, S13, T13, _, _⟩
  clear hl' S10 T10 hq1 hb
  -- values that are no rows
  refine ⟨by show 0 ≤ sizeLine; decide, fun q2 m2 => ?_⟩
  have z2 := S13.old m2
  have sa := sadd (o := .lst []) (Same.refl H13) m2
  have hq2 : upd H13 q2 (.lst []) q2 = some (.lst []) := upd_same
  replace hl2 := hl2.same sa
  replace S13 := S13.same sa
  replace T13 := T13.ext sa
  generalize upd H13 q2 (.lst []) = H14 at hq2 hl2 S13 T13 ⊢
  clear sa m2
  refine ⟨_, rfl, _, rfl, by show 2 ≤ sizeLine; decide, fun q3 m3 => ?_⟩
  have sa := sadd (o := .tup [.str "start", .int 0]) (Same.refl H14) m3
  have hq3 : upd H14 q3 (.tup [.str "start", .int 0]) q3 = some (.tup (Crs.start 0).vs) := upd_same
  replace hl2 := hl2.same sa
  replace S13 := S13.same sa
  replace T13 := T13.ext sa
  replace hq2 := sa _ _ hq2
  generalize upd H14 q3 (.tup [.str "start", .int 0]) = H15 at hq2 hq3 hl2 S13 T13 ⊢
  clear sa m3
  refine ⟨by show 1 ≤ sizeLine; decide, fun q4 m4 => ?_⟩
  have sa := sadd (o := .lst [.ref q3]) (Same.refl H15) m4
  have hq4 : upd H15 q4 (.lst [.ref q3]) q4 = some (.lst [.ref q3]) := upd_same
  replace hl2 := hl2.same sa
  replace S13 := S13.same sa
  replace T13 := T13.ext sa
  replace hq2 := sa _ _ hq2
  replace hq3 := sa _ _ hq3
  generalize upd H15 q4 (.lst [.ref q3]) = H16 at hq2 hq3 hq4 hl2 S13 T13 ⊢
  clear sa m4
  obtain ⟨ps, r1, r2⟩ := id hl2
  have lps := r2.len
  refine ⟨l, q4, _, _, rfl, rfl, r1, hq4, by rw [List.length_map]; show _ + 1 ≤ _; omega, fun q5 m5 => ?_⟩
  have z5 := S13.old m5
  have sa := sadd (o := .lst (ps.map V.ref ++ [.ref q3])) (Same.refl H16) m5
  have hq5 : RwX (upd H16 q5 (.lst (ps.map V.ref ++ [.ref q3]))) q5 (cs2 ++ [.start 0]) := ⟨ps ++ [q3], .inl (by rw [upd_same, List.map_append]; rfl), (r2.mono fun q xs e => sa _ _ e).app (sa _ _ hq3)⟩
  replace hl2 := hl2.same sa
  replace S13 := S13.same sa
  replace T13 := T13.ext sa
  replace hq2 := sa _ _ hq2
  replace r1 := sa _ _ r1
  replace r2 := r2.mono fun q xs e => sa _ _ e
  generalize upd H16 q5 (.lst (ps.map V.ref ++ [.ref q3])) = H17 at hq2 hq5 hl2 S13 T13 r1 r2 ⊢
  clear sa m5 hq3 hq4
  obtain ⟨p0, hp0, hv0⟩ := r2.get (i := 0) (x := x0) (by rw [ec]; rfl)
  refine ⟨_, rfl, l, _, 0, .ref p0, rfl, rfl, SqL.of r1, (atI_nat (j := 0) (by rw [List.getElem?_map, hp0]; rfl)), p0, _, rfl, .inr (SqT.of hv0), fun q6 m6 => ?_⟩
  have z6 := S13.old m6
  have sa := sadd (o := .lst x0.vs) (Same.refl H17) m6
  have hq6 : upd H17 q6 (.lst x0.vs) q6 = some (.lst x0.vs) := upd_same
  replace hl2 := hl2.same sa
  replace S13 := S13.same sa
  replace T13 := T13.ext sa
  replace hq2 := sa _ _ hq2
  replace hq5 := hq5.same sa
  generalize upd H17 q6 (.lst x0.vs) = H18 at hq2 hq5 hq6 hl2 S13 T13 ⊢
  clear sa m6 r1 r2 hp0 hv0
  refine ⟨by show 1 ≤ sizeLine; decide, fun q7 m7 => ?_⟩
  have z7 := S13.old m7
  have sa := sadd (o := .lst [.ref q6]) (Same.refl H18) m7
  have hq7 : upd H18 q7 (.lst [.ref q6]) q7 = some (.lst [.ref q6]) := upd_same
  replace hl2 := hl2.same sa
  replace S13 := S13.same sa
  replace T13 := T13.ext sa
  replace hq2 := sa _ _ hq2
  replace hq5 := hq5.same sa
  replace hq6 := sa _ _ hq6
  generalize upd H18 q7 (.lst [.ref q6]) = H19 at hq2 hq5 hq6 hq7 hl2 S13 T13 ⊢
  clear sa m7
  refine ⟨by show 5 ≤ sizeLine; decide, fun b2 nb2 => ?_⟩
  have sa := sadd (o := .lst [.non, .ref q2, .str tx, .ref q5, .ref q7]) (Same.refl H19) nb2
  have hb : upd H19 b2 (.lst [.non, .ref q2, .str tx, .ref q5, .ref q7]) b2 = some (.lst [.non, .ref q2, .str tx, .ref q5, .ref q7]) := upd_same
  replace S13 := S13.same sa
  replace T13 := T13.ext sa
  replace hq2 := sa _ _ hq2
  replace hq5 := hq5.same sa
  replace hq6 := sa _ _ hq6
  replace hq7 := sa _ _ hq7
  generalize upd H19 b2 (.lst [.non, .ref q2, .str tx, .ref q5, .ref q7]) = H20 at hb hq2 hq5 hq6 hq7 S13 T13 ⊢
  clear sa nb2 hl2
  have hall : ∀ x ∈ [V.non, .ref q2, .str tx, .ref q5, .ref q7], ∃ r, RtAt (Zs st g) H20 x r ∧ goodRt r = false := fun x hx => by
    simp only [List.mem_cons, List.not_mem_nil, or_false] at hx
    rcases hx with rfl | rfl | rfl | rfl | rfl
    · exact ⟨.oth, .inl rfl, rfl⟩
    · exact ⟨.seq [], ⟨q2, [], rfl, ⟨z2.1, z2.2.1⟩, .inl hq2, .nil, Nat.zero_le _⟩, rfl⟩
    · exact ⟨.oth, .inr (.inl ⟨_, rfl⟩), rfl⟩
    · exact ⟨_, hq5.rt ⟨z5.1, z5.2.1⟩ (by rw [List.length_append]; show _ + 1 ≤ _; omega), by rw [goodRt_map]; exact bad_again hg 0⟩
    · exact ⟨.seq [.oth], ⟨q7, [.ref q6], rfl, ⟨z7.1, z7.2.1⟩, .inl hq7, .cons (.inr (.inr (.inr (.inl ⟨q6, _, rfl, ⟨z6.1, z6.2.1⟩, hq6⟩)))) .nil, by show 1 ≤ 2000; decide⟩, by decide +kernel⟩
  clear hq2 hq5 hq6 hq7
  refine ⟨b2, rfl, ⟨_, SqL.of hb⟩, ?_⟩
  generalize [V.non, .ref q2, .str tx, .ref q5, .ref q7] = vs at hb hall ⊢
  refine for_list (xs := vs) (fun i σ H' => ∃ o7 : Option V, σ = [some (.ref a), some (.ref st), some (.ref p), some (.ref l), some (.str tx), o5, o6, o7, o8, none] ∧ SA H' st g c 2000 ∧ Tabs Ts H' ∧ H' b2 = some (.lst vs) ∧ ∀ x ∈ vs, ∃ r, RtAt (Zs st g) H' x r ∧ goodRt r = false)
    ⟨o7, rfl, S13, T13, hb, hall⟩ (fun i σ H' _ h => by obtain ⟨_, _, _, _, h, _⟩ := h; exact SqL.of h) ?turn3 ?done3
  case turn3 =>
    rintro i x σ Ha hx ⟨o7, rfl, Sa, Ta, hba, hra⟩
    obtain ⟨r, hr1, hr2⟩ := hra x (List.mem_of_getElem? hx)
    refine ⟨Ta, fun H4 e4 T4 Q' hQ' => ⟨_, rfl, Zs st g, x, r, rfl, hr1.ext e4, fun cs e1 g1 => ?_, fun _ H5 s5 => ⟨mOB, fun ea nea => ?_⟩⟩⟩
    · rw [e1, goodRt_map, g1] at hr2
      cases hr2
    have sx := sadd (o := ExJ (.ref CB) none ea) s5 nea
    refine ⟨none, ea, .ref CB, .ref CB, true, rfl, upd_same, fun u r => r, iBB, _, rfl, iteF ?_⟩
    have xx := e4.trans (extN_of sx)
    exact ⟨_, rfl, Sa.extZ xx, T4.ext sx, xx _ _ hba (fun _ z => nomatch z), fun y hy => by
      obtain ⟨r', k1, k2⟩ := hra y hy
      exact ⟨r', k1.ext xx, k2⟩⟩
  case done3 =>
  rintro σ H21 ⟨o7', rfl, S21, T21, _, _⟩
  clear S13 T13 hb hall
  -- words
  have ml := mul_len "9" (n := 5000) (by decide)
  have l1 : ("9" : Str).length = 1 := by decide +kernel
  rw [l1] at ml
  refine ⟨_, _, rfl, rfl, mul_ok9, ?_⟩
  generalize Txt.mul "9" 5000 = bg at ml ⊢
  have ml' : bg.length ≤ 5000 := ml
  refine ⟨by show 9 ≤ sizeLine; decide, fun b3 nb3 => ?_⟩
  have sa := sadd (o := .lst [.str "+5", .str "1_0", .str "05", .str "10000", .str "-0", .str "0x1", .str "", .str bg, .str "5 "]) (Same.refl H21) nb3
  have hb : upd H21 b3 (.lst [.str "+5", .str "1_0", .str "05", .str "10000", .str "-0", .str "0x1", .str "", .str bg, .str "5 "]) b3 = some (.lst [.str "+5", .str "1_0", .str "05", .str "10000", .str "-0", .str "0x1", .str "", .str bg, .str "5 "]) := upd_same
  replace S21 := S21.same sa
  replace T21 := T21.ext sa
  have hall : ∀ x ∈ [V.str "+5", .str "1_0", .str "05", .str "10000", .str "-0", .str "0x1", .str "", .str bg, .str "5 "], ∃ y : Str, x = .str y ∧ y.length ≤ 5010 := by
    intro x hx
    simp only [List.mem_cons, List.not_mem_nil, or_false] at hx
    rcases hx with rfl | rfl | rfl | rfl | rfl | rfl | rfl | rfl | rfl
    · exact ⟨_, rfl, by decide +kernel⟩
    · exact ⟨_, rfl, by decide +kernel⟩
    · exact ⟨_, rfl, by decide +kernel⟩
    · exact ⟨_, rfl, by decide +kernel⟩
    · exact ⟨_, rfl, by decide +kernel⟩
    · exact ⟨_, rfl, by decide +kernel⟩
    · exact ⟨_, rfl, by decide +kernel⟩
    · exact ⟨_, rfl, by omega⟩
    · exact ⟨_, rfl, by decide +kernel⟩
  refine ⟨b3, rfl, ⟨_, SqL.of hb⟩, ?_⟩
  generalize upd H21 b3 (.lst [.str "+5", .str "1_0", .str "05", .str "10000", .str "-0", .str "0x1", .str "", .str bg, .str "5 "]) = H22 at hb S21 T21 ⊢
  generalize [V.str "+5", .str "1_0", .str "05", .str "10000", .str "-0", .str "0x1", .str "", .str bg, .str "5 "] = ws at hb hall ⊢
  clear sa
  refine for_list (xs := ws) (fun i σ H' => ∃ o9 : Option V, σ = [some (.ref a), some (.ref st), some (.ref p), some (.ref l), some (.str tx), o5, o6, o7', o8, o9] ∧ SA H' st g c 2000 ∧ Tabs Ts H' ∧ H' b3 = some (.lst ws))
    ⟨none, rfl, S21, T21, hb⟩ (fun i σ H' _ h => by obtain ⟨_, _, _, _, h⟩ := h; exact SqL.of h) ?turn4 ?done4
  case turn4 =>
    rintro i x σ Ha hx ⟨o9, rfl, Sa, Ta, hba⟩
    obtain ⟨y, rfl, hy⟩ := hall x (List.mem_of_getElem? hx)
    have l6 : ("start " : Str).length = 6 := by decide +kernel
    refine ⟨_, rfl, _, _, rfl, rfl, by rw [l6]; omega, _, rfl, by rw [Str.length_append, l6]; omega, Ta, fun Hb eb Tb' => ⟨_, rfl, iteF ?_⟩⟩
    exact ⟨_, rfl, Sa.extZ eb, Tb', eb _ _ hba (fun _ z => nomatch z)⟩
  case done4 =>
  rintro σ H23 ⟨o9, rfl, S23, T23, _⟩
  clear S21 T21 hb hall
  refine ⟨_, rfl, by decide +kernel, T23, fun H24 e24 T24 => ⟨_, rfl, iteF ?_⟩⟩
  refine ⟨_, rfl, by decide +kernel, T24, fun H25 e25 T25 => ⟨_, rfl, iteF ?_⟩⟩
  refine ⟨_, rfl, by decide +kernel, T25, fun H26 e26 T26 => ⟨_, rfl, iteF ?_⟩⟩
  have S26 := ((S23.extZ e24).extZ e25).extZ e26
  refine ⟨_, rfl, st, g, c, _, 3, rfl, S26, by omega, by decide, by decide, fun u H27 _ _ S27 F27 => ⟨_, _, rfl, rfl, _, rfl, ite2 (fun _ => k _) (fun _ => ?_)⟩⟩
  exact ⟨_, rfl, st, g, c, _, rfl, S27, by omega, tabs_frZ T26 S26 F27, fun H' => k H'⟩
end
end OH
end
section
set_option Elab.async false
set_option linter.all false
set_option maxRecDepth 100000
set_option maxHeartbeats 16000000
/-! The facts of the head put together. -/
namespace OH
open PySem PySem.Spec PyProof.Rows L2
open LamX (Tabs TabS ExtN TabB CodeO)
theorem _root_.L2.FnOk.toG {P : Program} {w : World} {K : PySem.W.Frag} {mg : Str → Option Value} {base : Heap} {CX : CXT} {k : Nat} {f : Addr} {fd : FuncData} {ps : List Str} {sp : Sp} (F : FnOk P w K mg base CX k f fd ps sp) : FnG P w K mg base CX k f fd ps sp :=
  ⟨F.len, fun A out s H ar us vs Q E _ hr he hb hv hs => F.run A out s H ar us vs Q E hr he hb hv hs⟩
theorem t3n {K : PySem.W.Frag} {p : Addr} {dd : Option Addr} {a b : Int} {ta tb : Tok} {n : Nat} {sl : Array (Option Value)} (hl : K.lookup p = some ⟨.type "tuple", dd, .seq #[.int a ta, .int b tb, .none] n, sl⟩) : ∀ H, SqT K H p [.int a, .int b, .non] := fun H =>
  .inr ⟨_, _, _, hl, rfl, rfl, by show 3 ≤ sizeLine; decide, .cons ⟨ta, rfl⟩ (.cons ⟨tb, rfl⟩ (.cons rfl .nil))⟩
theorem hu2_1 {a b : Str} {P1 P2 : Addr} (h2 : P1 ≠ P2) : ∀ p ∈ ([(P1, a), (P2, b)] : List (Addr × Str)), p.1 = P1 → p.2 = a := fun p hp e => by
  simp only [List.mem_cons, List.not_mem_nil, or_false] at hp
  rcases hp with rfl | rfl
  · rfl
  · exact absurd e.symm h2
theorem hu2_2 {a b : Str} {P1 P2 : Addr} (h2 : P1 ≠ P2) : ∀ p ∈ ([(P1, a), (P2, b)] : List (Addr × Str)), p.1 = P2 → p.2 = b := fun p hp e => by
  simp only [List.mem_cons, List.not_mem_nil, or_false] at hp
  rcases hp with rfl | rfl
  · exact absurd e h2
  · rfl
theorem all_mk {l : PySem.W.OpenLaw} {w : World} {K : PySem.W.Frag} {mg : Str → Option Value} {fa : Addr} {h : Heap} {n : Nat}
    {f0 : Addr} {oc0 kV0 dc0 pm0 ct0 cd0 : Value} {od0 an0 : Option Addr} {sl0 : Array (Option Value)}
    {f1 : Addr} {oc1 kV1 dc1 pm1 ct1 cd1 : Value} {od1 an1 : Option Addr} {sl1 : Array (Option Value)}
    {f2 : Addr} {oc2 kV2 dc2 pm2 ct2 cd2 : Value} {od2 an2 : Option Addr} {sl2 : Array (Option Value)}
    {f3 : Addr} {oc3 kV3 dc3 pm3 ct3 cd3 : Value} {od3 an3 : Option Addr} {sl3 : Array (Option Value)}
    {f4 : Addr} {oc4 kV4 dc4 pm4 ct4 cd4 : Value} {od4 an4 : Option Addr} {sl4 : Array (Option Value)}
    {f5 : Addr} {oc5 kV5 dc5 pm5 ct5 cd5 : Value} {od5 an5 : Option Addr} {sl5 : Array (Option Value)}
    {f6 : Addr} {oc6 kV6 dc6 pm6 ct6 cd6 : Value} {od6 an6 : Option Addr} {sl6 : Array (Option Value)}
    {f7 : Addr} {oc7 kV7 dc7 pm7 ct7 cd7 : Value} {od7 an7 : Option Addr} {sl7 : Array (Option Value)}
    {f8 : Addr} {oc8 kV8 dc8 pm8 ct8 cd8 : Value} {od8 an8 : Option Addr} {sl8 : Array (Option Value)}
    {f9 : Addr} {oc9 kV9 dc9 pm9 ct9 cd9 : Value} {od9 an9 : Option Addr} {sl9 : Array (Option Value)}
    {f10 : Addr} {oc10 kV10 dc10 pm10 ct10 cd10 : Value} {od10 an10 : Option Addr} {sl10 : Array (Option Value)}
    {f11 : Addr} {oc11 kV11 dc11 pm11 ct11 cd11 : Value} {od11 an11 : Option Addr} {sl11 : Array (Option Value)}
    {f12 : Addr} {oc12 kV12 dc12 pm12 ct12 cd12 : Value} {od12 an12 : Option Addr} {sl12 : Array (Option Value)}
    {f13 : Addr} {oc13 kV13 dc13 pm13 ct13 cd13 : Value} {od13 an13 : Option Addr} {sl13 : Array (Option Value)}
    {f14 : Addr} {oc14 kV14 dc14 pm14 ct14 cd14 : Value} {od14 an14 : Option Addr} {sl14 : Array (Option Value)}
    {f15 : Addr} {oc15 kV15 dc15 pm15 ct15 cd15 : Value} {od15 an15 : Option Addr} {sl15 : Array (Option Value)}
    {f16 : Addr} {oc16 kV16 dc16 pm16 ct16 cd16 : Value} {od16 an16 : Option Addr} {sl16 : Array (Option Value)}
    {f17 : Addr} {oc17 kV17 dc17 pm17 ct17 cd17 : Value} {od17 an17 : Option Addr} {sl17 : Array (Option Value)}
    {f18 : Addr} {oc18 kV18 dc18 pm18 ct18 cd18 : Value} {od18 an18 : Option Addr} {sl18 : Array (Option Value)}
    {f19 : Addr} {oc19 kV19 dc19 pm19 ct19 cd19 : Value} {od19 an19 : Option Addr} {sl19 : Array (Option Value)}
    {f20 : Addr} {oc20 kV20 dc20 pm20 ct20 cd20 : Value} {od20 an20 : Option Addr} {sl20 : Array (Option Value)}
    {f21 : Addr} {oc21 kV21 dc21 pm21 ct21 cd21 : Value} {od21 an21 : Option Addr} {sl21 : Array (Option Value)}
    {f22 : Addr} {oc22 kV22 dc22 pm22 ct22 cd22 : Value} {od22 an22 : Option Addr} {sl22 : Array (Option Value)}
    {f23 : Addr} {oc23 kV23 dc23 pm23 ct23 cd23 : Value} {od23 an23 : Option Addr} {sl23 : Array (Option Value)}
    {f24 : Addr} {oc24 kV24 dc24 pm24 ct24 cd24 : Value} {od24 an24 : Option Addr} {sl24 : Array (Option Value)}
    {f25 : Addr} {oc25 kV25 dc25 pm25 ct25 cd25 : Value} {od25 an25 : Option Addr} {sl25 : Array (Option Value)}
    {f26 : Addr} {oc26 kV26 dc26 pm26 ct26 cd26 : Value} {od26 an26 : Option Addr} {sl26 : Array (Option Value)}
    {f27 : Addr} {oc27 kV27 dc27 pm27 ct27 cd27 : Value} {od27 an27 : Option Addr} {sl27 : Array (Option Value)}
    {f28 : Addr} {oc28 kV28 dc28 pm28 ct28 cd28 : Value} {od28 an28 : Option Addr} {sl28 : Array (Option Value)}
    {f29 c29 P29 : Addr} {oc29 kV29 dc29 pm29 ct29 : Value} {od29 an29 : Option Addr} {sl29 : Array (Option Value)}
    {f30 : Addr} {oc30 kV30 dc30 pm30 ct30 cd30 : Value} {od30 an30 : Option Addr} {sl30 : Array (Option Value)}
    {f31 c31 P31 : Addr} {oc31 kV31 dc31 pm31 ct31 : Value} {od31 an31 : Option Addr} {sl31 : Array (Option Value)}
    {CW : Addr}
    {fm0 : Addr} {ocm0 kVm0 dcm0 pmm0 ctm0 cdm0 : Value} {odm0 anm0 : Option Addr} {slm0 : Array (Option Value)}
    {fm1 : Addr} {ocm1 kVm1 dcm1 pmm1 ctm1 cdm1 : Value} {odm1 anm1 : Option Addr} {slm1 : Array (Option Value)}
    {fm2 : Addr} {ocm2 kVm2 dcm2 pmm2 ctm2 cdm2 : Value} {odm2 anm2 : Option Addr} {slm2 : Array (Option Value)}
    {fm3 : Addr} {ocm3 kVm3 dcm3 pmm3 ctm3 cdm3 : Value} {odm3 anm3 : Option Addr} {slm3 : Array (Option Value)}
    {mt0 : Tok}
    {mt1 : Tok}
    {mt2 : Tok}
    {CO : Addr}
    {EBadRow : Addr}
    {EBadText : Addr}
    {IEBadText LEBadText DEBadText NEBadText : Addr} {nmEBadText qEBadText : Str} {bsEBadText subEBadText : List Value} {snEBadText : List Str} {abEBadText : Bool} {colEBadText : Option Bool} {ddEBadText : Option Addr} {m0EBadText m1EBadText m2EBadText m3EBadText m5EBadText : Option Value}
    {oiEBadText kiEBadText diEBadText piEBadText tiEBadText ciEBadText giEBadText : Value} {xiEBadText yiEBadText ziEBadText wiEBadText : Option Addr} {siEBadText riEBadText hiEBadText : Array (Option Value)} {viEBadText : Array Value} {fiEBadText : Str} {uiEBadText : Tok}
    {aN : Addr} {nNu : Nat} {dNu : Option Addr} {sNu : Array (Option Value)} {tNu tNv : Tok}
    {aD : Addr} {nDo : Nat} {dDo : Option Addr} {sDo : Array (Option Value)} {tDo tDp : Tok}
    (KX : K.In h) (G : h.Ns mainGlobals mg) (hfa : mg "law" = some (.ref fa)) (n63 : n ≤ 63)
    (a0 : PySem.W.nsIn K mainGlobals "are_digits" = some (some (.ref f0)))
    (l0 : K.lookup f0 = some ⟨oc0, od0, .func (PySem.W.fnOf "are_digits" "are_digits" (defArgs s_are_digits) (defBody s_are_digits) (defScope s_are_digits) .none kV0 dc0 pm0 an0 cd0 ct0), sl0⟩)
    (c0d : PySem.W.codeIn K cd0 "are_digits" = true)
    (k0 : PySem.W.keepIn K (.ref f0) = true)
    (a1 : PySem.W.nsIn K mainGlobals "is_written_whole" = some (some (.ref f1)))
    (l1 : K.lookup f1 = some ⟨oc1, od1, .func (PySem.W.fnOf "is_written_whole" "is_written_whole" (defArgs s_is_written_whole) (defBody s_is_written_whole) (defScope s_is_written_whole) .none kV1 dc1 pm1 an1 cd1 ct1), sl1⟩)
    (c1d : PySem.W.codeIn K cd1 "is_written_whole" = true)
    (k1 : PySem.W.keepIn K (.ref f1) = true)
    (a2 : PySem.W.nsIn K mainGlobals "is_field" = some (some (.ref f2)))
    (l2 : K.lookup f2 = some ⟨oc2, od2, .func (PySem.W.fnOf "is_field" "is_field" (defArgs s_is_field) (defBody s_is_field) (defScope s_is_field) .none kV2 dc2 pm2 an2 cd2 ct2), sl2⟩)
    (c2d : PySem.W.codeIn K cd2 "is_field" = true)
    (k2 : PySem.W.keepIn K (.ref f2) = true)
    (a3 : PySem.W.nsIn K mainGlobals "good_row" = some (some (.ref f3)))
    (l3 : K.lookup f3 = some ⟨oc3, od3, .func (PySem.W.fnOf "good_row" "good_row" (defArgs s_good_row) (defBody s_good_row) (defScope s_good_row) .none kV3 dc3 pm3 an3 cd3 ct3), sl3⟩)
    (c3d : PySem.W.codeIn K cd3 "good_row" = true)
    (k3 : PySem.W.keepIn K (.ref f3) = true)
    (a4 : PySem.W.nsIn K mainGlobals "need_row" = some (some (.ref f4)))
    (l4 : K.lookup f4 = some ⟨oc4, od4, .func (PySem.W.fnOf "need_row" "need_row" (defArgs s_need_row) (defBody s_need_row) (defScope s_need_row) .none kV4 dc4 pm4 an4 cd4 ct4), sl4⟩)
    (c4d : PySem.W.codeIn K cd4 "need_row" = true)
    (k4 : PySem.W.keepIn K (.ref f4) = true)
    (a5 : PySem.W.nsIn K mainGlobals "row_text" = some (some (.ref f5)))
    (l5 : K.lookup f5 = some ⟨oc5, od5, .func (PySem.W.fnOf "row_text" "row_text" (defArgs s_row_text) (defBody s_row_text) (defScope s_row_text) .none kV5 dc5 pm5 an5 cd5 ct5), sl5⟩)
    (c5d : PySem.W.codeIn K cd5 "row_text" = true)
    (k5 : PySem.W.keepIn K (.ref f5) = true)
    (a6 : PySem.W.nsIn K mainGlobals "is_told" = some (some (.ref f6)))
    (l6 : K.lookup f6 = some ⟨oc6, od6, .func (PySem.W.fnOf "is_told" "is_told" (defArgs s_is_told) (defBody s_is_told) (defScope s_is_told) .none kV6 dc6 pm6 an6 cd6 ct6), sl6⟩)
    (c6d : PySem.W.codeIn K cd6 "is_told" = true)
    (k6 : PySem.W.keepIn K (.ref f6) = true)
    (a7 : PySem.W.nsIn K mainGlobals "crossing_told" = some (some (.ref f7)))
    (l7 : K.lookup f7 = some ⟨oc7, od7, .func (PySem.W.fnOf "crossing_told" "crossing_told" (defArgs s_crossing_told) (defBody s_crossing_told) (defScope s_crossing_told) .none kV7 dc7 pm7 an7 cd7 ct7), sl7⟩)
    (c7d : PySem.W.codeIn K cd7 "crossing_told" = true)
    (k7 : PySem.W.keepIn K (.ref f7) = true)
    (a8 : PySem.W.nsIn K mainGlobals "row_of" = some (some (.ref f8)))
    (l8 : K.lookup f8 = some ⟨oc8, od8, .func (PySem.W.fnOf "row_of" "row_of" (defArgs s_row_of) (defBody s_row_of) (defScope s_row_of) .none kV8 dc8 pm8 an8 cd8 ct8), sl8⟩)
    (c8d : PySem.W.codeIn K cd8 "row_of" = true)
    (k8 : PySem.W.keepIn K (.ref f8) = true)
    (a9 : PySem.W.nsIn K mainGlobals "_law_begun" = some (some (.ref f9)))
    (l9 : K.lookup f9 = some ⟨oc9, od9, .func (PySem.W.fnOf "_law_begun" "_law_begun" (defArgs s__law_begun) (defBody s__law_begun) (defScope s__law_begun) .none kV9 dc9 pm9 an9 cd9 ct9), sl9⟩)
    (c9d : PySem.W.codeIn K cd9 "_law_begun" = true)
    (k9 : PySem.W.keepIn K (.ref f9) = true)
    (a10 : PySem.W.nsIn K mainGlobals "_law_mixed" = some (some (.ref f10)))
    (l10 : K.lookup f10 = some ⟨oc10, od10, .func (PySem.W.fnOf "_law_mixed" "_law_mixed" (defArgs s__law_mixed) (defBody s__law_mixed) (defScope s__law_mixed) .none kV10 dc10 pm10 an10 cd10 ct10), sl10⟩)
    (c10d : PySem.W.codeIn K cd10 "_law_mixed" = true)
    (k10 : PySem.W.keepIn K (.ref f10) = true)
    (a11 : PySem.W.nsIn K mainGlobals "_law_draw" = some (some (.ref f11)))
    (l11 : K.lookup f11 = some ⟨oc11, od11, .func (PySem.W.fnOf "_law_draw" "_law_draw" (defArgs s__law_draw) (defBody s__law_draw) (defScope s__law_draw) .none kV11 dc11 pm11 an11 cd11 ct11), sl11⟩)
    (c11d : PySem.W.codeIn K cd11 "_law_draw" = true)
    (k11 : PySem.W.keepIn K (.ref f11) = true)
    (a12 : PySem.W.nsIn K mainGlobals "_law_pick" = some (some (.ref f12)))
    (l12 : K.lookup f12 = some ⟨oc12, od12, .func (PySem.W.fnOf "_law_pick" "_law_pick" (defArgs s__law_pick) (defBody s__law_pick) (defScope s__law_pick) .none kV12 dc12 pm12 an12 cd12 ct12), sl12⟩)
    (c12d : PySem.W.codeIn K cd12 "_law_pick" = true)
    (k12 : PySem.W.keepIn K (.ref f12) = true)
    (a13 : PySem.W.nsIn K mainGlobals "_law_shuffled" = some (some (.ref f13)))
    (l13 : K.lookup f13 = some ⟨oc13, od13, .func (PySem.W.fnOf "_law_shuffled" "_law_shuffled" (defArgs s__law_shuffled) (defBody s__law_shuffled) (defScope s__law_shuffled) .none kV13 dc13 pm13 an13 cd13 ct13), sl13⟩)
    (c13d : PySem.W.codeIn K cd13 "_law_shuffled" = true)
    (k13 : PySem.W.keepIn K (.ref f13) = true)
    (a14 : PySem.W.nsIn K mainGlobals "_law_small" = some (some (.ref f14)))
    (l14 : K.lookup f14 = some ⟨oc14, od14, .func (PySem.W.fnOf "_law_small" "_law_small" (defArgs s__law_small) (defBody s__law_small) (defScope s__law_small) .none kV14 dc14 pm14 an14 cd14 ct14), sl14⟩)
    (c14d : PySem.W.codeIn K cd14 "_law_small" = true)
    (k14 : PySem.W.keepIn K (.ref f14) = true)
    (a15 : PySem.W.nsIn K mainGlobals "_law_caught" = some (some (.ref f15)))
    (l15 : K.lookup f15 = some ⟨oc15, od15, .func (PySem.W.fnOf "_law_caught" "_law_caught" (defArgs s__law_caught) (defBody s__law_caught) (defScope s__law_caught) .none kV15 dc15 pm15 an15 cd15 ct15), sl15⟩)
    (c15d : PySem.W.codeIn K cd15 "_law_caught" = true)
    (k15 : PySem.W.keepIn K (.ref f15) = true)
    (a16 : PySem.W.nsIn K mainGlobals "_law_drawn_face" = some (some (.ref f16)))
    (l16 : K.lookup f16 = some ⟨oc16, od16, .func (PySem.W.fnOf "_law_drawn_face" "_law_drawn_face" (defArgs s__law_drawn_face) (defBody s__law_drawn_face) (defScope s__law_drawn_face) .none kV16 dc16 pm16 an16 cd16 ct16), sl16⟩)
    (c16d : PySem.W.codeIn K cd16 "_law_drawn_face" = true)
    (k16 : PySem.W.keepIn K (.ref f16) = true)
    (a17 : PySem.W.nsIn K mainGlobals "_law_open_face" = some (some (.ref f17)))
    (l17 : K.lookup f17 = some ⟨oc17, od17, .func (PySem.W.fnOf "_law_open_face" "_law_open_face" (defArgs s__law_open_face) (defBody s__law_open_face) (defScope s__law_open_face) .none kV17 dc17 pm17 an17 cd17 ct17), sl17⟩)
    (c17d : PySem.W.codeIn K cd17 "_law_open_face" = true)
    (k17 : PySem.W.keepIn K (.ref f17) = true)
    (a18 : PySem.W.nsIn K mainGlobals "_law_next" = some (some (.ref f18)))
    (l18 : K.lookup f18 = some ⟨oc18, od18, .func (PySem.W.fnOf "_law_next" "_law_next" (defArgs s__law_next) (defBody s__law_next) (defScope s__law_next) .none kV18 dc18 pm18 an18 cd18 ct18), sl18⟩)
    (c18d : PySem.W.codeIn K cd18 "_law_next" = true)
    (k18 : PySem.W.keepIn K (.ref f18) = true)
    (a19 : PySem.W.nsIn K mainGlobals "_law_behind" = some (some (.ref f19)))
    (l19 : K.lookup f19 = some ⟨oc19, od19, .func (PySem.W.fnOf "_law_behind" "_law_behind" (defArgs s__law_behind) (defBody s__law_behind) (defScope s__law_behind) .none kV19 dc19 pm19 an19 cd19 ct19), sl19⟩)
    (c19d : PySem.W.codeIn K cd19 "_law_behind" = true)
    (k19 : PySem.W.keepIn K (.ref f19) = true)
    (a20 : PySem.W.nsIn K mainGlobals "_law_few" = some (some (.ref f20)))
    (l20 : K.lookup f20 = some ⟨oc20, od20, .func (PySem.W.fnOf "_law_few" "_law_few" (defArgs s__law_few) (defBody s__law_few) (defScope s__law_few) .none kV20 dc20 pm20 an20 cd20 ct20), sl20⟩)
    (c20d : PySem.W.codeIn K cd20 "_law_few" = true)
    (k20 : PySem.W.keepIn K (.ref f20) = true)
    (a21 : PySem.W.nsIn K mainGlobals "_law_drawn_row" = some (some (.ref f21)))
    (l21 : K.lookup f21 = some ⟨oc21, od21, .func (PySem.W.fnOf "_law_drawn_row" "_law_drawn_row" (defArgs s__law_drawn_row) (defBody s__law_drawn_row) (defScope s__law_drawn_row) .none kV21 dc21 pm21 an21 cd21 ct21), sl21⟩)
    (c21d : PySem.W.codeIn K cd21 "_law_drawn_row" = true)
    (k21 : PySem.W.keepIn K (.ref f21) = true)
    (a22 : PySem.W.nsIn K mainGlobals "_law_long_row" = some (some (.ref f22)))
    (l22 : K.lookup f22 = some ⟨oc22, od22, .func (PySem.W.fnOf "_law_long_row" "_law_long_row" (defArgs s__law_long_row) (defBody s__law_long_row) (defScope s__law_long_row) .none kV22 dc22 pm22 an22 cd22 ct22), sl22⟩)
    (c22d : PySem.W.codeIn K cd22 "_law_long_row" = true)
    (k22 : PySem.W.keepIn K (.ref f22) = true)
    (a23 : PySem.W.nsIn K mainGlobals "_law_own_text" = some (some (.ref f23)))
    (l23 : K.lookup f23 = some ⟨oc23, od23, .func (PySem.W.fnOf "_law_own_text" "_law_own_text" (defArgs s__law_own_text) (defBody s__law_own_text) (defScope s__law_own_text) .none kV23 dc23 pm23 an23 cd23 ct23), sl23⟩)
    (c23d : PySem.W.codeIn K cd23 "_law_own_text" = true)
    (k23 : PySem.W.keepIn K (.ref f23) = true)
    (a24 : PySem.W.nsIn K mainGlobals "_law_is_worth" = some (some (.ref f24)))
    (l24 : K.lookup f24 = some ⟨oc24, od24, .func (PySem.W.fnOf "_law_is_worth" "_law_is_worth" (defArgs s__law_is_worth) (defBody s__law_is_worth) (defScope s__law_is_worth) .none kV24 dc24 pm24 an24 cd24 ct24), sl24⟩)
    (c24d : PySem.W.codeIn K cd24 "_law_is_worth" = true)
    (k24 : PySem.W.keepIn K (.ref f24) = true)
    (a25 : PySem.W.nsIn K mainGlobals "_law_lines_words" = some (some (.ref f25)))
    (l25 : K.lookup f25 = some ⟨oc25, od25, .func (PySem.W.fnOf "_law_lines_words" "_law_lines_words" (defArgs s__law_lines_words) (defBody s__law_lines_words) (defScope s__law_lines_words) .none kV25 dc25 pm25 an25 cd25 ct25), sl25⟩)
    (c25d : PySem.W.codeIn K cd25 "_law_lines_words" = true)
    (k25 : PySem.W.keepIn K (.ref f25) = true)
    (a26 : PySem.W.nsIn K mainGlobals "_law_wrong_word" = some (some (.ref f26)))
    (l26 : K.lookup f26 = some ⟨oc26, od26, .func (PySem.W.fnOf "_law_wrong_word" "_law_wrong_word" (defArgs s__law_wrong_word) (defBody s__law_wrong_word) (defScope s__law_wrong_word) .none kV26 dc26 pm26 an26 cd26 ct26), sl26⟩)
    (c26d : PySem.W.codeIn K cd26 "_law_wrong_word" = true)
    (k26 : PySem.W.keepIn K (.ref f26) = true)
    (a27 : PySem.W.nsIn K mainGlobals "_law_read" = some (some (.ref f27)))
    (l27 : K.lookup f27 = some ⟨oc27, od27, .func (PySem.W.fnOf "_law_read" "_law_read" (defArgs s__law_read) (defBody s__law_read) (defScope s__law_read) .none kV27 dc27 pm27 an27 cd27 ct27), sl27⟩)
    (c27d : PySem.W.codeIn K cd27 "_law_read" = true)
    (k27 : PySem.W.keepIn K (.ref f27) = true)
    (a28 : PySem.W.nsIn K mainGlobals "_law_changed" = some (some (.ref f28)))
    (l28 : K.lookup f28 = some ⟨oc28, od28, .func (PySem.W.fnOf "_law_changed" "_law_changed" (defArgs s__law_changed) (defBody s__law_changed) (defScope s__law_changed) .none kV28 dc28 pm28 an28 cd28 ct28), sl28⟩)
    (c28d : PySem.W.codeIn K cd28 "_law_changed" = true)
    (k28 : PySem.W.keepIn K (.ref f28) = true)
    (a29 : PySem.W.nsIn K mainGlobals "_law_answer_holds" = some (some (.ref f29)))
    (l29 : K.lookup f29 = some ⟨oc29, od29, .func (PySem.W.fnOf "_law_answer_holds" "_law_answer_holds" (defArgs s__law_answer_holds) (defBody s__law_answer_holds) (defScope s__law_answer_holds) .none kV29 dc29 pm29 an29 (.ref c29) ct29), sl29⟩)
    (c29d : PySem.W.codeIn K (.ref c29) "_law_answer_holds" = true)
    (k29 : PySem.W.keepIn K (.ref f29) = true)
    (a30 : PySem.W.nsIn K mainGlobals "_law_large_hold" = some (some (.ref f30)))
    (l30 : K.lookup f30 = some ⟨oc30, od30, .func (PySem.W.fnOf "_law_large_hold" "_law_large_hold" (defArgs s__law_large_hold) (defBody s__law_large_hold) (defScope s__law_large_hold) .none kV30 dc30 pm30 an30 cd30 ct30), sl30⟩)
    (c30d : PySem.W.codeIn K cd30 "_law_large_hold" = true)
    (k30 : PySem.W.keepIn K (.ref f30) = true)
    (a31 : PySem.W.nsIn K mainGlobals "law" = some (some (.ref f31)))
    (l31 : K.lookup f31 = some ⟨oc31, od31, .func (PySem.W.fnOf "law" "law" (defArgs s_law) (defBody s_law) (defScope s_law) .none kV31 dc31 pm31 an31 (.ref c31) ct31), sl31⟩)
    (c31d : PySem.W.codeIn K (.ref c31) "law" = true)
    (k31 : PySem.W.keepIn K (.ref f31) = true)
    (gCW : PySem.W.nsIn K mainGlobals "RowWalk" = some (some (.ref CW)))
    (pgCW : PySem.W.plainGet K CW Str.empty = true)
    (hdCW : PySem.W.hasDictIn K CW = true)
    (poCW : PySem.W.plainOver K CW = true)
    (saCW : PySem.W.findIn K (.ref CW) "__setattr__" = some (some (.builtin "object.__setattr__")))
    (mkCW : PySem.W.makesIn K CW = true)
    (kcCW : PySem.W.keepIn K (.ref CW) = true)
    (nCW_inside : PySem.W.findIn K (.ref CW) "inside" = some none)
    (nCW_asks : PySem.W.findIn K (.ref CW) "asks" = some none)
    (nCW_over : PySem.W.findIn K (.ref CW) "over" = some none)
    (im0 : PySem.W.findIn K (.ref CW) "__init__" = some (some (.ref fm0)))
    (ym0 : PySem.W.isFn K (.ref fm0) = true)
    (lm0 : K.lookup fm0 = some ⟨ocm0, odm0, .func (PySem.W.fnOf "__init__" "RowWalk.__init__" (defArgs s_RowWalk___init__) (defBody s_RowWalk___init__) (defScope s_RowWalk___init__) .none kVm0 dcm0 pmm0 anm0 cdm0 ctm0), slm0⟩)
    (cm0d : PySem.W.codeIn K cdm0 "RowWalk.__init__" = true)
    (km0 : PySem.W.keepIn K (.ref fm0) = true)
    (im1 : PySem.W.findIn K (.ref CW) "fields" = some (some (.ref fm1)))
    (ym1 : PySem.W.isFn K (.ref fm1) = true)
    (lm1 : K.lookup fm1 = some ⟨ocm1, odm1, .func (PySem.W.fnOf "fields" "RowWalk.fields" (defArgs s_RowWalk_fields) (defBody s_RowWalk_fields) (defScope s_RowWalk_fields) .none kVm1 dcm1 pmm1 anm1 cdm1 ctm1), slm1⟩)
    (cm1d : PySem.W.codeIn K cdm1 "RowWalk.fields" = true)
    (km1 : PySem.W.keepIn K (.ref fm1) = true)
    (im2 : PySem.W.findIn K (.ref CW) "can_follow" = some (some (.ref fm2)))
    (ym2 : PySem.W.isFn K (.ref fm2) = true)
    (lm2 : K.lookup fm2 = some ⟨ocm2, odm2, .func (PySem.W.fnOf "can_follow" "RowWalk.can_follow" (defArgs s_RowWalk_can_follow) (defBody s_RowWalk_can_follow) (defScope s_RowWalk_can_follow) .none kVm2 dcm2 pmm2 anm2 cdm2 ctm2), slm2⟩)
    (cm2d : PySem.W.codeIn K cdm2 "RowWalk.can_follow" = true)
    (km2 : PySem.W.keepIn K (.ref fm2) = true)
    (im3 : PySem.W.findIn K (.ref CW) "take" = some (some (.ref fm3)))
    (ym3 : PySem.W.isFn K (.ref fm3) = true)
    (lm3 : K.lookup fm3 = some ⟨ocm3, odm3, .func (PySem.W.fnOf "take" "RowWalk.take" (defArgs s_RowWalk_take) (defBody s_RowWalk_take) (defScope s_RowWalk_take) .none kVm3 dcm3 pmm3 anm3 cdm3 ctm3), slm3⟩)
    (cm3d : PySem.W.codeIn K cdm3 "RowWalk.take" = true)
    (km3 : PySem.W.keepIn K (.ref fm3) = true)
    (z_isinstance : PySem.W.nsIn K mainGlobals "isinstance" = some none)
    (z_int : PySem.W.nsIn K mainGlobals "int" = some none)
    (z_bool : PySem.W.nsIn K mainGlobals "bool" = some none)
    (z_tuple : PySem.W.nsIn K mainGlobals "tuple" = some none)
    (z_str : PySem.W.nsIn K mainGlobals "str" = some none)
    (z_len : PySem.W.nsIn K mainGlobals "len" = some none)
    (z_all : PySem.W.nsIn K mainGlobals "all" = some none)
    (z_list : PySem.W.nsIn K mainGlobals "list" = some none)
    (z_abs : PySem.W.nsIn K mainGlobals "abs" = some none)
    (z_range : PySem.W.nsIn K mainGlobals "range" = some none)
    (z_zip : PySem.W.nsIn K mainGlobals "zip" = some none)
    (z_sorted : PySem.W.nsIn K mainGlobals "sorted" = some none)
    (z_repr : PySem.W.nsIn K mainGlobals "repr" = some none)
    (z_enumerate : PySem.W.nsIn K mainGlobals "enumerate" = some none)
    (z_set : PySem.W.nsIn K mainGlobals "set" = some none)
    (cst0 : PySem.W.nsIn K mainGlobals "MOST_OPEN" = some (some (.int 60 mt0)))
    (cst1 : PySem.W.nsIn K mainGlobals "MOST_ROOMS" = some (some (.int 6 mt1)))
    (cst2 : PySem.W.nsIn K mainGlobals "MOST_FIGURES" = some (some (.int 4 mt2)))
    (gCO : PySem.W.nsIn K mainGlobals "OwnharmError" = some (some (.ref CO)))
    (v1 : PySem.W.specialIn K (.builtin "object.__class__") "__get__" = some (some (.builtin "getset_descriptor.__get__")))
    (v2 : PySem.W.takesIn K (.builtin "object.__class__") = some true)
    (gEBadRow : PySem.W.nsIn K mainGlobals "BadRow" = some (some (.ref EBadRow)))
    (xEBadRow : PySem.W.excIn K EBadRow [.type "ValueError", .type "Exception", .type "BaseException", .type "object"] "ValueError.__new__" = true)
    (kEBadRow : PySem.W.keepIn K (.ref EBadRow) = true)
    (gEBadText : PySem.W.nsIn K mainGlobals "BadText" = some (some (.ref EBadText)))
    (bEBadRow : PySem.W.subIn K (.ref EBadRow) (.type "BaseException") = some true)
    (tEBadRow : PySem.W.typeIn K (.ref EBadRow) = some (.type "type"))
    (u1EBadRow : PySem.W.findIn K (.ref EBadRow) "__getattribute__" = some (some (.builtin "BaseException.__getattribute__")))
    (u2EBadRow : PySem.W.findIn K (.ref EBadRow) "__getattr__" = some none)
    (u3EBadRow : PySem.W.hasDictIn K EBadRow = true)
    (u4EBadRow : PySem.W.findIn K (.ref EBadRow) "__class__" = some (some (.builtin "object.__class__")))
    (u5EBadRow : PySem.W.mroIn K EBadRow (.type "object") = some true)
    (iEBadRow : PySem.W.kitOne K (.ref EBadRow) (.ref EBadRow) = some true)
    (eEBadRow : PySem.W.exmOne K (.ref EBadRow) (.ref CO) = some true)
    (bEBadText : PySem.W.subIn K (.ref EBadText) (.type "BaseException") = some true)
    (tEBadText : PySem.W.typeIn K (.ref EBadText) = some (.type "type"))
    (u1EBadText : PySem.W.findIn K (.ref EBadText) "__getattribute__" = some (some (.builtin "BaseException.__getattribute__")))
    (u2EBadText : PySem.W.findIn K (.ref EBadText) "__getattr__" = some none)
    (u3EBadText : PySem.W.hasDictIn K EBadText = true)
    (u4EBadText : PySem.W.findIn K (.ref EBadText) "__class__" = some (some (.builtin "object.__class__")))
    (u5EBadText : PySem.W.mroIn K EBadText (.type "object") = some true)
    (iEBadText : PySem.W.kitOne K (.ref EBadText) (.ref EBadText) = some true)
    (eEBadText : PySem.W.exmOne K (.ref EBadText) (.ref CO) = some true)
    (zS : PySem.W.nsIn K mainGlobals "super" = some none)
    (zT : PySem.W.nsIn K PySem.cStatics "thirdparty.any" = some none)
    (zP : (l.prog.main.scope.names.lookup ("super" : Str)).isSome = false)
    (xEBadText : K.lookup EBadText = some (excClassObj nmEBadText qEBadText EBadText NEBadText bsEBadText [.ref CO, .type "ValueError", .type "Exception", .type "BaseException", .type "object"] true snEBadText subEBadText abEBadText colEBadText ddEBadText m0EBadText m1EBadText m2EBadText m3EBadText m5EBadText "ValueError.__new__"))
    (kEBadText : PySem.W.keepIn K (.ref EBadText) = true)
    (j1EBadText : PySem.W.findIn K (.ref EBadText) "__setattr__" = some (some (.builtin "object.__setattr__")))
    (j2EBadText : PySem.W.ks_superIn K EBadText EBadText "__init__" = some (some (.builtin "ValueError.__init__")))
    (j3EBadText : PySem.W.subIn K (.ref EBadText) (.type "ValueError") = some true)
    (j4EBadText : PySem.W.mroIn K EBadText (.ref EBadText) = some true)
    (j5EBadText_line : PySem.W.findIn K (.ref EBadText) "line" = some none)
    (j5EBadText_column : PySem.W.findIn K (.ref EBadText) "column" = some none)
    (j6EBadText : PySem.W.findIn K (.ref EBadText) "__init__" = some (some (.ref IEBadText)))
    (j7EBadText : PySem.W.typeIn K (.ref IEBadText) = some (.type "function"))
    (lEBadText : K.lookup IEBadText = some ⟨oiEBadText, xiEBadText, .func (PySem.W.ksFn "__init__" "BadText.__init__" (defArgs s_BadText___init__) (defBody s_BadText___init__) (defScope s_BadText___init__) .none kiEBadText diEBadText piEBadText yiEBadText (.ref DEBadText) tiEBadText LEBadText), siEBadText⟩)
    (cEBadText : PySem.W.codeIn K (.ref DEBadText) "BadText.__init__" = true)
    (wEBadText : PySem.W.keepIn K (.ref IEBadText) = true)
    (nEBadText : K.lookup LEBadText = some ⟨ciEBadText, ziEBadText, .cell (some (.ref EBadText)), riEBadText⟩)
    (dEBadText : K.lookup DEBadText = some ⟨giEBadText, wiEBadText, .fields viEBadText, hiEBadText⟩)
    (sEBadText : viEBadText[2]? = some (.str fiEBadText uiEBadText))
    (rEBadText : ((l.prog.main.file : Str) == fiEBadText) = true)
    (aNUM : PySem.W.nsIn K mainGlobals "NUMBER" = some (some (.ref aN)))
    (lNUM : K.lookup aN = some ⟨.type "tuple", dNu, .seq #[.int 0 tNu, .int 9999 tNv, .none] nNu, sNu⟩)
    (aDOR : PySem.W.nsIn K mainGlobals "DOOR" = some (some (.ref aD)))
    (lDOR : K.lookup aD = some ⟨.type "tuple", dDo, .seq #[.int 0 tDo, .int 5 tDp, .none] nDo, sDo⟩)
    (ne12 : P29 ≠ P31)
    (tH29 : PySem.W.codeHdIn K c29 P29 = true)
    (tN29 : K.lookup P29 = none)
    (tO29 : h.get? P29 = some { cls := .none, data := .fields #[] })
    (tH31 : PySem.W.codeHdIn K c31 P31 = true)
    (tN31 : K.lookup P31 = none)
    (tO31 : h.get? P31 = some { cls := .none, data := .fields #[] }) :
    LawAtG l w K 13 n "script" mg fa h := by
  have e := hfa.symm.trans (PySem.W.mg_of KX G a31)
  cases e
  have T : Txt K mg := ⟨PySem.W.mg_none_of KX G z_isinstance, PySem.W.mg_none_of KX G z_int, PySem.W.mg_none_of KX G z_bool, PySem.W.mg_none_of KX G z_tuple, PySem.W.mg_none_of KX G z_str, PySem.W.mg_none_of KX G z_len, PySem.W.mg_none_of KX G z_all, PySem.W.mg_none_of KX G z_list, PySem.W.mg_none_of KX G z_abs, PySem.W.mg_none_of KX G z_range, PySem.W.mg_none_of KX G z_zip, PySem.W.mg_none_of KX G z_sorted, PySem.W.mg_none_of KX G z_repr⟩
  have TC : TxC K mg aN aD := ⟨PySem.W.mg_of KX G aNUM, t3n lNUM, PySem.W.mg_of KX G aDOR, t3n lDOR, ⟨_, PySem.W.mg_of KX G cst0⟩, ⟨_, PySem.W.mg_of KX G cst1⟩, PySem.W.mg_none_of KX G z_len⟩
  have F0 := fun_mk (st := s_are_digits) l0 c0d k0
  have b0 := F0.binds (ps := ["text"]) fun _ _ _ _ _ _ us hl => match us, hl with | [_], _ => rfl
  have g0 : mg "are_digits" = some (.ref f0) := PySem.W.mg_of KX G a0
  have F1 := fun_mk (st := s_is_written_whole) l1 c1d k1
  have b1 := F1.binds (ps := ["text"]) fun _ _ _ _ _ _ us hl => match us, hl with | [_], _ => rfl
  have g1 : mg "is_written_whole" = some (.ref f1) := PySem.W.mg_of KX G a1
  have F2 := fun_mk (st := s_is_field) l2 c2d k2
  have b2 := F2.binds (ps := ["value", "field"]) fun _ _ _ _ _ _ us hl => match us, hl with | [_, _], _ => rfl
  have g2 : mg "is_field" = some (.ref f2) := PySem.W.mg_of KX G a2
  have F3 := fun_mk (st := s_good_row) l3 c3d k3
  have b3 := F3.binds (ps := ["value"]) fun _ _ _ _ _ _ us hl => match us, hl with | [_], _ => rfl
  have g3 : mg "good_row" = some (.ref f3) := PySem.W.mg_of KX G a3
  have F4 := fun_mk (st := s_need_row) l4 c4d k4
  have b4 := F4.binds (ps := ["row"]) fun _ _ _ _ _ _ us hl => match us, hl with | [_], _ => rfl
  have g4 : mg "need_row" = some (.ref f4) := PySem.W.mg_of KX G a4
  have F5 := fun_mk (st := s_row_text) l5 c5d k5
  have b5 := F5.binds (ps := ["row"]) fun _ _ _ _ _ _ us hl => match us, hl with | [_], _ => rfl
  have g5 : mg "row_text" = some (.ref f5) := PySem.W.mg_of KX G a5
  have F6 := fun_mk (st := s_is_told) l6 c6d k6
  have b6 := F6.binds (ps := ["word", "field"]) fun _ _ _ _ _ _ us hl => match us, hl with | [_, _], _ => rfl
  have g6 : mg "is_told" = some (.ref f6) := PySem.W.mg_of KX G a6
  have F7 := fun_mk (st := s_crossing_told) l7 c7d k7
  have b7 := F7.binds (ps := ["walk", "line", "words"]) fun _ _ _ _ _ _ us hl => match us, hl with | [_, _, _], _ => rfl
  have g7 : mg "crossing_told" = some (.ref f7) := PySem.W.mg_of KX G a7
  have F8 := fun_mk (st := s_row_of) l8 c8d k8
  have b8 := F8.binds (ps := ["text"]) fun _ _ _ _ _ _ us hl => match us, hl with | [_], _ => rfl
  have g8 : mg "row_of" = some (.ref f8) := PySem.W.mg_of KX G a8
  have F9 := fun_mk (st := s__law_begun) l9 c9d k9
  have b9 := F9.binds (ps := ["script"]) fun _ _ _ _ _ _ us hl => match us, hl with | [_], _ => rfl
  have g9 : mg "_law_begun" = some (.ref f9) := PySem.W.mg_of KX G a9
  have F10 := fun_mk (st := s__law_mixed) l10 c10d k10
  have b10 := F10.binds (ps := ["state"]) fun _ _ _ _ _ _ us hl => match us, hl with | [_], _ => rfl
  have g10 : mg "_law_mixed" = some (.ref f10) := PySem.W.mg_of KX G a10
  have F11 := fun_mk (st := s__law_draw) l11 c11d k11
  have b11 := F11.binds (ps := ["state", "room"]) fun _ _ _ _ _ _ us hl => match us, hl with | [_, _], _ => rfl
  have g11 : mg "_law_draw" = some (.ref f11) := PySem.W.mg_of KX G a11
  have F12 := fun_mk (st := s__law_pick) l12 c12d k12
  have b12 := F12.binds (ps := ["state", "some"]) fun _ _ _ _ _ _ us hl => match us, hl with | [_, _], _ => rfl
  have g12 : mg "_law_pick" = some (.ref f12) := PySem.W.mg_of KX G a12
  have F13 := fun_mk (st := s__law_shuffled) l13 c13d k13
  have b13 := F13.binds (ps := ["state", "some"]) fun _ _ _ _ _ _ us hl => match us, hl with | [_, _], _ => rfl
  have g13 : mg "_law_shuffled" = some (.ref f13) := PySem.W.mg_of KX G a13
  have F14 := fun_mk (st := s__law_small) l14 c14d k14
  have b14 := F14.binds (ps := ["state"]) fun _ _ _ _ _ _ us hl => match us, hl with | [_], _ => rfl
  have g14 : mg "_law_small" = some (.ref f14) := PySem.W.mg_of KX G a14
  have F15 := fun_mk (st := s__law_caught) l15 c15d k15
  have b15 := F15.binds (ps := ["action"]) fun _ _ _ _ _ _ us hl => match us, hl with | [_], _ => rfl
  have g15 : mg "_law_caught" = some (.ref f15) := PySem.W.mg_of KX G a15
  have F16 := fun_mk (st := s__law_drawn_face) l16 c16d k16
  have b16 := F16.binds (ps := ["state", "most"]) fun _ _ _ _ _ _ us hl => match us, hl with | [_, _], _ => rfl
  have g16 : mg "_law_drawn_face" = some (.ref f16) := PySem.W.mg_of KX G a16
  have F17 := fun_mk (st := s__law_open_face) l17 c17d k17
  have b17 := F17.binds (ps := ["state", "many"]) fun _ _ _ _ _ _ us hl => match us, hl with | [_, _], _ => rfl
  have g17 : mg "_law_open_face" = some (.ref f17) := PySem.W.mg_of KX G a17
  have F18 := fun_mk (st := s__law_next) l18 c18d k18
  have b18 := F18.binds (ps := ["state", "face", "control", "asks", "few"]) fun _ _ _ _ _ _ us hl => match us, hl with | [_, _, _, _, _], _ => rfl
  have g18 : mg "_law_next" = some (.ref f18) := PySem.W.mg_of KX G a18
  have F19 := fun_mk (st := s__law_behind) l19 c19d k19
  have b19 := F19.binds (ps := ["control", "asks", "crossing"]) fun _ _ _ _ _ _ us hl => match us, hl with | [_, _, _], _ => rfl
  have g19 : mg "_law_behind" = some (.ref f19) := PySem.W.mg_of KX G a19
  have F20 := fun_mk (st := s__law_few) l20 c20d k20
  have b20 := F20.binds (ps := ["state"]) fun _ _ _ _ _ _ us hl => match us, hl with | [_], _ => rfl
  have g20 : mg "_law_few" = some (.ref f20) := PySem.W.mg_of KX G a20
  have F21 := fun_mk (st := s__law_drawn_row) l21 c21d k21
  have b21 := F21.binds (ps := ["state", "face", "most"]) fun _ _ _ _ _ _ us hl => match us, hl with | [_, _, _], _ => rfl
  have g21 : mg "_law_drawn_row" = some (.ref f21) := PySem.W.mg_of KX G a21
  have F22 := fun_mk (st := s__law_long_row) l22 c22d k22
  have b22 := F22.binds (ps := ["state"]) fun _ _ _ _ _ _ us hl => match us, hl with | [_], _ => rfl
  have g22 : mg "_law_long_row" = some (.ref f22) := PySem.W.mg_of KX G a22
  have F23 := fun_mk (st := s__law_own_text) l23 c23d k23
  have b23 := F23.binds (ps := ["row"]) fun _ _ _ _ _ _ us hl => match us, hl with | [_], _ => rfl
  have g23 : mg "_law_own_text" = some (.ref f23) := PySem.W.mg_of KX G a23
  have F24 := fun_mk (st := s__law_is_worth) l24 c24d k24
  have b24 := F24.binds (ps := ["word"]) fun _ _ _ _ _ _ us hl => match us, hl with | [_], _ => rfl
  have g24 : mg "_law_is_worth" = some (.ref f24) := PySem.W.mg_of KX G a24
  have F25 := fun_mk (st := s__law_lines_words) l25 c25d k25
  have b25 := F25.binds (ps := ["control", "asks"]) fun _ _ _ _ _ _ us hl => match us, hl with | [_, _], _ => rfl
  have g25 : mg "_law_lines_words" = some (.ref f25) := PySem.W.mg_of KX G a25
  have F26 := fun_mk (st := s__law_wrong_word) l26 c26d k26
  have b26 := F26.binds (ps := ["line", "some"]) fun _ _ _ _ _ _ us hl => match us, hl with | [_, _], _ => rfl
  have g26 : mg "_law_wrong_word" = some (.ref f26) := PySem.W.mg_of KX G a26
  have F27 := fun_mk (st := s__law_read) l27 c27d k27
  have b27 := F27.binds (ps := ["text"]) fun _ _ _ _ _ _ us hl => match us, hl with | [_], _ => rfl
  have g27 : mg "_law_read" = some (.ref f27) := PySem.W.mg_of KX G a27
  have F28 := fun_mk (st := s__law_changed) l28 c28d k28
  have b28 := F28.binds (ps := ["state", "text"]) fun _ _ _ _ _ _ us hl => match us, hl with | [_, _], _ => rfl
  have g28 : mg "_law_changed" = some (.ref f28) := PySem.W.mg_of KX G a28
  have F29 := fun_mk (st := s__law_answer_holds) l29 c29d k29
  have b29 := F29.binds (ps := ["text"]) fun _ _ _ _ _ _ us hl => match us, hl with | [_], _ => rfl
  have g29 : mg "_law_answer_holds" = some (.ref f29) := PySem.W.mg_of KX G a29
  have F30 := fun_mk (st := s__law_large_hold) l30 c30d k30
  have b30 := F30.binds (ps := ["state"]) fun _ _ _ _ _ _ us hl => match us, hl with | [_], _ => rfl
  have g30 : mg "_law_large_hold" = some (.ref f30) := PySem.W.mg_of KX G a30
  have ClCW : Cls K CW := ⟨pgCW, hdCW, poCW, saCW⟩
  have GcCW : mg "RowWalk" = some (.ref CW) := PySem.W.mg_of KX G gCW
  have TW := (⟨ClCW, nCW_inside, nCW_asks, nCW_over⟩ : TxW K CW)
  have Fm0 := fun_mk (st := s_RowWalk___init__) lm0 cm0d km0
  have bm0 := Fm0.binds (ps := ["self"]) fun _ _ _ _ _ _ us hl => match us, hl with | [_], _ => rfl
  have Mm0 : Meth K CW "__init__" fm0 := ⟨im0, ym0, km0⟩
  have Km0 : Mk K CW fm0 := ⟨mkCW, im0, ym0, kcCW⟩
  have Fm1 := fun_mk (st := s_RowWalk_fields) lm1 cm1d km1
  have bm1 := Fm1.binds (ps := ["self", "word"]) fun _ _ _ _ _ _ us hl => match us, hl with | [_, _], _ => rfl
  have Mm1 : Meth K CW "fields" fm1 := ⟨im1, ym1, km1⟩
  have Fm2 := fun_mk (st := s_RowWalk_can_follow) lm2 cm2d km2
  have bm2 := Fm2.binds (ps := ["self", "crossing"]) fun _ _ _ _ _ _ us hl => match us, hl with | [_, _], _ => rfl
  have Mm2 : Meth K CW "can_follow" fm2 := ⟨im2, ym2, km2⟩
  have Fm3 := fun_mk (st := s_RowWalk_take) lm3 cm3d km3
  have bm3 := Fm3.binds (ps := ["self", "crossing"]) fun _ _ _ _ _ _ us hl => match us, hl with | [_, _], _ => rfl
  have Mm3 : Meth K CW "take" fm3 := ⟨im3, ym3, km3⟩
  have REBadRow : ErrC K mg "BadRow" EBadRow := ⟨PySem.W.mg_of KX G gEBadRow, xEBadRow, kEBadRow, bEBadRow, tEBadRow⟩
  have XEBadRow : ExcC K EBadRow := ⟨u1EBadRow, u2EBadRow, bEBadRow, u3EBadRow, u4EBadRow, v1, v2, u5EBadRow⟩
  have XEBadText : ExcC K EBadText := ⟨u1EBadText, u2EBadText, bEBadText, u3EBadText, u4EBadText, v1, v2, u5EBadText⟩
  have UEBadText : SupC l.prog K mg EBadText := { cls := ⟨_, _, _, _, _, _, _, _, _, _, _, _, _, _, _, xEBadText, rfl⟩, sa := j1EBadText, exC := bEBadText, tyC := tEBadText, kC := kEBadText, mS := PySem.W.mg_none_of KX G zS, top := zP, any := zT, up := j2EBadText, ve := j3EBadText, own := j4EBadText }
  have REBadText_line : ErrF l.prog K mg "BadText" "line" EBadText := ⟨PySem.W.mg_of KX G gEBadText, UEBadText, XEBadText, j5EBadText_line⟩
  have REBadText_column : ErrF l.prog K mg "BadText" "column" EBadText := ⟨PySem.W.mg_of KX G gEBadText, UEBadText, XEBadText, j5EBadText_column⟩
  have VEBadText : FunS l.prog K "__init__" "BadText.__init__" s_BadText___init__ IEBadText _ EBadText LEBadText := ⟨⟨_, _, _, _, _, _, _, _, _, rfl, lEBadText, cEBadText, _, _, _, _, _, _, dEBadText, sEBadText, rEBadText⟩, wEBadText, ⟨_, _, _, nEBadText⟩, ⟨_, rfl, rfl⟩⟩
  have BEBadText : Binds K _ ["self", "line", "column"] [] := .all (fd := PySem.W.ksFn "__init__" "BadText.__init__" (defArgs s_BadText___init__) (defBody s_BadText___init__) (defScope s_BadText___init__) .none kiEBadText diEBadText piEBadText yiEBadText (.ref DEBadText) tiEBadText LEBadText) fun us hl => match us, hl with | [_, _, _], _ => rfl
  refine ⟨PySem.W.fnOf "law" "law" (defArgs s_law) (defBody s_law) (defScope s_law) .none kV31 dc31 pm31 an31 (.ref c31) ct31, [(c29, P29), (c31, P31)], spLawT K ([(P29, "_law_answer_holds.<locals>.<lambda>"), (P31, "law.<locals>.<lambda>")] : List (Addr × Str)), fun p hp => ?_, fun s v => .of_eq rfl, fun H a ns hl _ hT hS => ?_, fun base KB GB TB => ?_⟩
  · skip
    rcases List.mem_cons.mp hp with rfl | hp
    · exact ⟨tO29, tN29, PySem.W.codeHd_of_K KX tH29⟩
    obtain rfl := List.mem_singleton.mp hp
    exact ⟨tO31, tN31, PySem.W.codeHd_of_K KX tH31⟩
  · refine ⟨a, ns, rfl, hS, Nat.le_trans hl n63, fun p hp => ?_, fun _ => rfl⟩
    rcases List.mem_cons.mp hp with rfl | hp
    · exact TabS.nil (hT (c29, P29) (List.mem_cons_self))
    obtain rfl := List.mem_singleton.mp hp
    exact TabS.nil (hT (c31, P31) (List.mem_cons_of_mem _ (List.mem_singleton.mpr rfl)))
  · skip
    have TB29 := TB (c29, P29) (List.mem_cons_self)
    have TB31 := TB (c31, P31) (List.mem_cons_of_mem _ (List.mem_singleton.mpr rfl))
    have OBT := ok_BadText_init (P := l.prog) (w := w) (base := base) VEBadText REBadText_line j5EBadText_column
    have Om0 : FnOk l.prog w K mg base CX0 1 fm0 _ ["self"] (spKInit CW) := ok_RowWalk___init__ Fm0 TW
    have K_m0 : MakF l.prog w K mg base CX0 1 "RowWalk" CW ["self"] (spKInit CW) := ⟨_, _, Om0, Km0, GcCW, bm0⟩
    have Om1 : FnOk l.prog w K mg base CX0 1 fm1 _ ["self", "word"] (fun vs H Q E => spFields K CW vs H Q E ∨ spFields0 CW vs H Q E) := (ok_RowWalk_fields Fm1 TW TC).or (ok_RowWalk_fields0 Fm1 TW TC)
    have Dm1 : MetF l.prog w K mg base CX0 1 CW "fields" ["self", "word"] (fun vs H Q E => spFields K CW vs H Q E ∨ spFields0 CW vs H Q E) := ⟨_, _, Om1, Mm1, bm1⟩
    have Ofd : FnOk l.prog w K mg base CX0 1 fm1 _ ["self", "word"] (spFields K CW) := ok_RowWalk_fields Fm1 TW TC
    have Dfd : MetF l.prog w K mg base CX0 1 CW "fields" ["self", "word"] (spFields K CW) := ⟨_, _, Ofd, Mm1, bm1⟩
    have Om2 : FnOk l.prog w K mg base CX0 2 fm2 _ ["self", "crossing"] (spCanA CW) := ok_can_followA Fm2 T TW (PySem.W.mg_none_of KX G z_enumerate) (Dm1.mono (k := 1) (by decide))
    have Dm2 : MetF l.prog w K mg base CX0 2 CW "can_follow" ["self", "crossing"] (spCanA CW) := ⟨_, _, Om2, Mm2, bm2⟩
    have Om3 : FnOk l.prog w K mg base CX0 1 fm3 _ ["self", "crossing"] (spTake CW) := ok_RowWalk_take Fm3 TW
    have Dm3 : MetF l.prog w K mg base CX0 1 CW "take" ["self", "crossing"] (spTake CW) := ⟨_, _, Om3, Mm3, bm3⟩
    have O0 : FnOk l.prog w K mg base CX0 2 f0 _ ["text"] spAreDig := ok_aredig F0
    have D0 : DefF l.prog w K mg base CX0 2 "are_digits" ["text"] spAreDig := ⟨_, _, O0, g0, k0, b0⟩
    have O1 : FnOk l.prog w K mg base CX0 3 f1 _ ["text"] spWritten := ok_written F1 T O0 g0 k0 b0
    have D1 : DefF l.prog w K mg base CX0 3 "is_written_whole" ["text"] spWritten := ⟨_, _, O1, g1, k1, b1⟩
    have O2 : FnOk l.prog w K mg base CX0 1 f2 _ ["value", "field"] (spIsField K) := ok_is_field F2 T
    have D2 : DefF l.prog w K mg base CX0 1 "is_field" ["value", "field"] (spIsField K) := ⟨_, _, O2, g2, k2, b2⟩
    have O3 : FnOk l.prog w K mg base CX0 4 f3 _ ["value"] spGoodX := ok_good_rowX F3 T TW (K_m0.mono (k := 2) (by decide)) (Dm2.mono (k := 3) (by decide)) (Dm3.mono (k := 3) (by decide))
    have D3 : DefF l.prog w K mg base CX0 4 "good_row" ["value"] spGoodX := ⟨_, _, O3, g3, k3, b3⟩
    have O4 : FnOk l.prog w K mg base (L2.CX l.prog w) 5 f4 _ ["row"] (spNeedX EBadRow) := ok_need_rowX F4 REBadRow (D3.mono (k := 4) (by decide))
    have O5 : FnOk l.prog w K mg base (L2.CX l.prog w) 6 f5 _ ["row"] (spRowTX EBadRow) := ok_row_text F5 T O4 g4 k4 b4
    have O6 : FnOk l.prog w K mg base CX0 5 f6 _ ["word", "field"] (spIsTold K) := ok_is_told F6 T ⟨_, PySem.W.mg_of KX G cst2⟩ (D1.mono (k := 4) (by decide)) (D2.mono (k := 4) (by decide))
    have D6 : DefF l.prog w K mg base CX0 5 "is_told" ["word", "field"] (spIsTold K) := ⟨_, _, O6, g6, k6, b6⟩
    have O7 : FnOk l.prog w K mg base (L2.CX l.prog w) 6 f7 _ ["walk", "line", "words"] (spCrTold K CW EBadText) := ok_crossing_told F7 T TW (PySem.W.mg_none_of KX G z_enumerate) REBadText_line j6EBadText j7EBadText OBT BEBadText (Dfd.mono (k := 5) (by decide)) (D6.mono (k := 5) (by decide))
    have O8 : FnOk l.prog w K mg base (L2.CX l.prog w) 7 f8 _ ["text"] (spRowOf EBadText) := ok_row_of F8 T TW (PySem.W.mg_none_of KX G z_enumerate) REBadText_line j6EBadText j7EBadText OBT BEBadText O7 g7 k7 b7 (K_m0.mono (k := 5) (by decide)) (Dm3.mono (k := 5) (by decide))
    have O9 : FnOk l.prog w K mg base CX0 1 f9 _ ["script"] (spBegun K) := ok_begun F9 T
    have D9 : DefF l.prog w K mg base CX0 1 "_law_begun" ["script"] (spBegun K) := ⟨_, _, O9, g9, k9, b9⟩
    have O10 : FnOk l.prog w K mg base CX0 1 f10 _ ["state"] spMixed := ok_mixed F10 T
    have D10 : DefF l.prog w K mg base CX0 1 "_law_mixed" ["state"] spMixed := ⟨_, _, O10, g10, k10, b10⟩
    have O11 : FnOk l.prog w K mg base CX0 2 f11 _ ["state", "room"] spDraw := ok_draw F11 T O10 g10 k10 b10
    have D11 : DefF l.prog w K mg base CX0 2 "_law_draw" ["state", "room"] spDraw := ⟨_, _, O11, g11, k11, b11⟩
    have O12 : FnOk l.prog w K mg base CX0 3 f12 _ ["state", "some"] spPick2 := ok_pick2 F12 T O11 g11 k11 b11
    have D12 : DefF l.prog w K mg base CX0 3 "_law_pick" ["state", "some"] spPick2 := ⟨_, _, O12, g12, k12, b12⟩
    have PK : FnOk l.prog w K mg base CX0 3 f12 _ ["state", "some"] spPick := pick_of O12
    have DPK : DefF l.prog w K mg base CX0 3 "_law_pick" ["state", "some"] spPick := ⟨_, _, PK, g12, k12, b12⟩
    have O13 : FnOk l.prog w K mg base CX0 3 f13 _ ["state", "some"] spShuf := ok__law_shuffled F13 T (D11.mono (k := 2) (by decide))
    have D13 : DefF l.prog w K mg base CX0 3 "_law_shuffled" ["state", "some"] spShuf := ⟨_, _, O13, g13, k13, b13⟩
    have O14 : FnOk l.prog w K mg base CX0 4 f14 _ ["state"] (spNo 2) := ok_small F14 O11 g11 k11 b11 PK g12 k12 b12
    have D14 : DefF l.prog w K mg base CX0 4 "_law_small" ["state"] (spNo 2) := ⟨_, _, O14, g14, k14, b14⟩
    have O16 : FnOk l.prog w K mg base CX0 5 f16 _ ["state", "most"] (spFaceD 1 6) := ok__law_drawn_face F16 T (PySem.W.mg_none_of KX G z_enumerate) (D11.mono (k := 4) (by decide)) (D13.mono (k := 4) (by decide)) (DPK.mono (k := 4) (by decide))
    have D16 : DefF l.prog w K mg base CX0 5 "_law_drawn_face" ["state", "most"] (spFaceD 1 6) := ⟨_, _, O16, g16, k16, b16⟩
    have O17 : FnOk l.prog w K mg base CX0 5 f17 _ ["state", "many"] (spFaceD 2 4) := ok__law_open_face F17 T (PySem.W.mg_none_of KX G z_enumerate) (D11.mono (k := 4) (by decide)) (D13.mono (k := 4) (by decide)) (DPK.mono (k := 4) (by decide))
    have D17 : DefF l.prog w K mg base CX0 5 "_law_open_face" ["state", "many"] (spFaceD 2 4) := ⟨_, _, O17, g17, k17, b17⟩
    have O18 : FnOk l.prog w K mg base CX0 5 f18 _ ["state", "face", "control", "asks", "few"] spNextC := ok__law_next F18 T (D11.mono (k := 4) (by decide)) (D12.mono (k := 4) (by decide))
    have D18 : DefF l.prog w K mg base CX0 5 "_law_next" ["state", "face", "control", "asks", "few"] spNextC := ⟨_, _, O18, g18, k18, b18⟩
    have O19 : FnOk l.prog w K mg base CX0 1 f19 _ ["control", "asks", "crossing"] (spBehind K) := ok__law_behind F19
    have D19 : DefF l.prog w K mg base CX0 1 "_law_behind" ["control", "asks", "crossing"] (spBehind K) := ⟨_, _, O19, g19, k19, b19⟩
    have O20 : FnOk l.prog w K mg base CX0 9 f20 _ ["state"] spFew := ok__law_few F20 T (D11.mono (k := 8) (by decide)) (D14.mono (k := 8) (by decide))
    have D20 : DefF l.prog w K mg base CX0 9 "_law_few" ["state"] spFew := ⟨_, _, O20, g20, k20, b20⟩
    have O21 : FnOk l.prog w K mg base CX0 10 f21 _ ["state", "face", "most"] spRowD := ok__law_drawn_row F21 T (D20.mono (k := 9) (by decide)) (D11.mono (k := 9) (by decide)) (D12.mono (k := 9) (by decide)) (D18.mono (k := 9) (by decide)) (D19.mono (k := 9) (by decide))
    have D21 : DefF l.prog w K mg base CX0 10 "_law_drawn_row" ["state", "face", "most"] spRowD := ⟨_, _, O21, g21, k21, b21⟩
    have O22 : FnOk l.prog w K mg base CX0 7 f22 _ ["state"] spLongR := ok__law_long_row F22 T (D11.mono (k := 6) (by decide)) (D19.mono (k := 6) (by decide))
    have D22 : DefF l.prog w K mg base CX0 7 "_law_long_row" ["state"] spLongR := ⟨_, _, O22, g22, k22, b22⟩
    have O23 : FnOk l.prog w K mg base CX0 1 f23 _ ["row"] spOwnT := ok__law_own_text F23 T
    have D23 : DefF l.prog w K mg base CX0 1 "_law_own_text" ["row"] spOwnT := ⟨_, _, O23, g23, k23, b23⟩
    have O24 : FnOk l.prog w K mg base CX0 1 f24 _ ["word"] spWorth := ok__law_is_worth F24 T
    have D24 : DefF l.prog w K mg base CX0 1 "_law_is_worth" ["word"] spWorth := ⟨_, _, O24, g24, k24, b24⟩
    have O25 : FnOk l.prog w K mg base CX0 1 f25 _ ["control", "asks"] spLw := ok__law_lines_words F25 T
    have D25 : DefF l.prog w K mg base CX0 1 "_law_lines_words" ["control", "asks"] spLw := ⟨_, _, O25, g25, k25, b25⟩
    have O26 : FnOk l.prog w K mg base CX0 2 f26 _ ["line", "some"] spWrongW := ok__law_wrong_word F26 T (PySem.W.mg_none_of KX G z_enumerate) (D24.mono (k := 1) (by decide))
    have D26 : DefF l.prog w K mg base CX0 2 "_law_wrong_word" ["line", "some"] spWrongW := ⟨_, _, O26, g26, k26, b26⟩
    have O27 : FnOk l.prog w K mg base CX0 4 f27 _ ["text"] spRead := ok__law_read F27 T (PySem.W.mg_none_of KX G z_enumerate) (D26.mono (k := 3) (by decide)) (D25.mono (k := 3) (by decide)) (D19.mono (k := 3) (by decide))
    have D27 : DefF l.prog w K mg base CX0 4 "_law_read" ["text"] spRead := ⟨_, _, O27, g27, k27, b27⟩
    have O28 : FnOk l.prog w K mg base CX0 7 f28 _ ["state", "text"] spChanged := ok__law_changed F28 T (D11.mono (k := 6) (by decide)) (DPK.mono (k := 6) (by decide))
    have D28 : DefF l.prog w K mg base CX0 7 "_law_changed" ["state", "text"] spChanged := ⟨_, _, O28, g28, k28, b28⟩
    have O29 : FnOk l.prog w K mg base CX0 10 f29 _ ["text"] (spAnsT ([(P29, "_law_answer_holds.<locals>.<lambda>"), (P31, "law.<locals>.<lambda>")] : List (Addr × Str))) := ok__law_answer_holds l29 c29d T TB29 List.mem_cons_self (hu2_1 ne12) REBadText_line REBadText_column (PySem.W.mg_of KX G gCO) eEBadText iEBadText O8 g8 k8 b8 (kb_row_of F8) F15 g15 b15 (D27.mono (k := 9) (by decide))
    have D29 : DefF l.prog w K mg base CX0 10 "_law_answer_holds" ["text"] (spAnsT ([(P29, "_law_answer_holds.<locals>.<lambda>"), (P31, "law.<locals>.<lambda>")] : List (Addr × Str))) := ⟨_, _, O29, g29, k29, b29⟩
    have O30 : FnOk l.prog w K mg base CX0 11 f30 _ ["state"] (spLarge ([(P29, "_law_answer_holds.<locals>.<lambda>"), (P31, "law.<locals>.<lambda>")] : List (Addr × Str))) := ok__law_large_hold F30 T (D22.mono (k := 10) (by decide)) (D23.mono (k := 10) (by decide)) (D29.mono (k := 10) (by decide)) O8 g8 k8 b8 O5 g5 k5 b5
    have D30 : DefF l.prog w K mg base CX0 11 "_law_large_hold" ["state"] (spLarge ([(P29, "_law_answer_holds.<locals>.<lambda>"), (P31, "law.<locals>.<lambda>")] : List (Addr × Str))) := ⟨_, _, O30, g30, k30, b30⟩
    exact FnOk.toG (ok_law l31 c31d T TB31 (List.mem_cons_of_mem _ (List.mem_singleton.mpr rfl)) (hu2_2 ne12) REBadText_line REBadText_column (PySem.W.mg_of KX G gCO) eEBadText iEBadText REBadRow XEBadRow eEBadRow iEBadRow O8 g8 k8 b8 O5 g5 k5 b5 (kb_row_text F5) F15 g15 b15 (D9.mono (k := 12) (by decide)) (D11.mono (k := 12) (by decide)) (D16.mono (k := 12) (by decide)) (D17.mono (k := 12) (by decide)) (D21.mono (k := 12) (by decide)) (D23.mono (k := 12) (by decide)) (D28.mono (k := 12) (by decide)) (D29.mono (k := 12) (by decide)) (D30.mono (k := 12) (by decide)))
end OH
end
open PySem PySem.W PyProof.Rows in
set_option Elab.async false in
set_option maxRecDepth 100000 in
set_option maxHeartbeats 0 in
theorem PySem.Challenge.cw_ownharm_k61_texts_of_rows_and_the_first_holds : PySem.Challenge.rw_ownharm_k61_texts_of_rows_and_the_first.Holds := by
  w_on; o_law; k_head; (case hw => w_witness2)
  k_fill
  refine OH.walk_ofG (n := 63) (k := 13) (x := "script") rfl (by decide) rfl ⟨rfl, by decide, by decide⟩ (fun w h Y => PySem.W.km_in_of Y) ?F
  case F =>
    intro w mg fa h Y KX G hmg
    refine' OH.all_mk (P29 := 291) (P31 := 303) KX G hmg (by decide) ?a0 ?l0 ?c0d ?k0 ?a1 ?l1 ?c1d ?k1 ?a2 ?l2 ?c2d ?k2 ?a3 ?l3 ?c3d ?k3 ?a4 ?l4 ?c4d ?k4 ?a5 ?l5 ?c5d ?k5 ?a6 ?l6 ?c6d ?k6 ?a7 ?l7 ?c7d ?k7 ?a8 ?l8 ?c8d ?k8 ?a9 ?l9 ?c9d ?k9 ?a10 ?l10 ?c10d ?k10 ?a11 ?l11 ?c11d ?k11 ?a12 ?l12 ?c12d ?k12 ?a13 ?l13 ?c13d ?k13 ?a14 ?l14 ?c14d ?k14 ?a15 ?l15 ?c15d ?k15 ?a16 ?l16 ?c16d ?k16 ?a17 ?l17 ?c17d ?k17 ?a18 ?l18 ?c18d ?k18 ?a19 ?l19 ?c19d ?k19 ?a20 ?l20 ?c20d ?k20 ?a21 ?l21 ?c21d ?k21 ?a22 ?l22 ?c22d ?k22 ?a23 ?l23 ?c23d ?k23 ?a24 ?l24 ?c24d ?k24 ?a25 ?l25 ?c25d ?k25 ?a26 ?l26 ?c26d ?k26 ?a27 ?l27 ?c27d ?k27 ?a28 ?l28 ?c28d ?k28 ?a29 ?l29 ?c29d ?k29 ?a30 ?l30 ?c30d ?k30 ?a31 ?l31 ?c31d ?k31 ?gCW ?pgCW ?hdCW ?poCW ?saCW ?mkCW ?kcCW ?nCW_inside ?nCW_asks ?nCW_over ?im0 ?ym0 ?lm0 ?cm0d ?km0 ?im1 ?ym1 ?lm1 ?cm1d ?km1 ?im2 ?ym2 ?lm2 ?cm2d ?km2 ?im3 ?ym3 ?lm3 ?cm3d ?km3 ?z_isinstance ?z_int ?z_bool ?z_tuple ?z_str ?z_len ?z_all ?z_list ?z_abs ?z_range ?z_zip ?z_sorted ?z_repr ?z_enumerate ?z_set ?cst0 ?cst1 ?cst2 ?gCO ?v1 ?v2 ?gEBadRow ?xEBadRow ?kEBadRow ?gEBadText ?bEBadRow ?tEBadRow ?u1EBadRow ?u2EBadRow ?u3EBadRow ?u4EBadRow ?u5EBadRow ?iEBadRow ?eEBadRow ?bEBadText ?tEBadText ?u1EBadText ?u2EBadText ?u3EBadText ?u4EBadText ?u5EBadText ?iEBadText ?eEBadText ?zS ?zT ?zP ?xEBadText ?kEBadText ?j1EBadText ?j2EBadText ?j3EBadText ?j4EBadText ?j5EBadText_line ?j5EBadText_column ?j6EBadText ?j7EBadText ?lEBadText ?cEBadText ?wEBadText ?nEBadText ?dEBadText ?sEBadText ?rEBadText ?aNUM ?lNUM ?aDOR ?lDOR ?ne12 ?tH29 ?tN29 (PySem.W.km_tabs_of Y 291 (by simp)) ?tH31 ?tN31 (PySem.W.km_tabs_of Y 303 (by simp))
    (case a0 => k_is)
    (case l0 => k_is)
    (case c0d => k_is)
    (case k0 => k_is)
    (case a1 => k_is)
    (case l1 => k_is)
    (case c1d => k_is)
    (case k1 => k_is)
    (case a2 => k_is)
    (case l2 => k_is)
    (case c2d => k_is)
    (case k2 => k_is)
    (case a3 => k_is)
    (case l3 => k_is)
    (case c3d => k_is)
    (case k3 => k_is)
    (case a4 => k_is)
    (case l4 => k_is)
    (case c4d => k_is)
    (case k4 => k_is)
    (case a5 => k_is)
    (case l5 => k_is)
    (case c5d => k_is)
    (case k5 => k_is)
    (case a6 => k_is)
    (case l6 => k_is)
    (case c6d => k_is)
    (case k6 => k_is)
    (case a7 => k_is)
    (case l7 => k_is)
    (case c7d => k_is)
    (case k7 => k_is)
    (case a8 => k_is)
    (case l8 => k_is)
    (case c8d => k_is)
    (case k8 => k_is)
    (case a9 => k_is)
    (case l9 => k_is)
    (case c9d => k_is)
    (case k9 => k_is)
    (case a10 => k_is)
    (case l10 => k_is)
    (case c10d => k_is)
    (case k10 => k_is)
    (case a11 => k_is)
    (case l11 => k_is)
    (case c11d => k_is)
    (case k11 => k_is)
    (case a12 => k_is)
    (case l12 => k_is)
    (case c12d => k_is)
    (case k12 => k_is)
    (case a13 => k_is)
    (case l13 => k_is)
    (case c13d => k_is)
    (case k13 => k_is)
    (case a14 => k_is)
    (case l14 => k_is)
    (case c14d => k_is)
    (case k14 => k_is)
    (case a15 => k_is)
    (case l15 => k_is)
    (case c15d => k_is)
    (case k15 => k_is)
    (case a16 => k_is)
    (case l16 => k_is)
    (case c16d => k_is)
    (case k16 => k_is)
    (case a17 => k_is)
    (case l17 => k_is)
    (case c17d => k_is)
    (case k17 => k_is)
    (case a18 => k_is)
    (case l18 => k_is)
    (case c18d => k_is)
    (case k18 => k_is)
    (case a19 => k_is)
    (case l19 => k_is)
    (case c19d => k_is)
    (case k19 => k_is)
    (case a20 => k_is)
    (case l20 => k_is)
    (case c20d => k_is)
    (case k20 => k_is)
    (case a21 => k_is)
    (case l21 => k_is)
    (case c21d => k_is)
    (case k21 => k_is)
    (case a22 => k_is)
    (case l22 => k_is)
    (case c22d => k_is)
    (case k22 => k_is)
    (case a23 => k_is)
    (case l23 => k_is)
    (case c23d => k_is)
    (case k23 => k_is)
    (case a24 => k_is)
    (case l24 => k_is)
    (case c24d => k_is)
    (case k24 => k_is)
    (case a25 => k_is)
    (case l25 => k_is)
    (case c25d => k_is)
    (case k25 => k_is)
    (case a26 => k_is)
    (case l26 => k_is)
    (case c26d => k_is)
    (case k26 => k_is)
    (case a27 => k_is)
    (case l27 => k_is)
    (case c27d => k_is)
    (case k27 => k_is)
    (case a28 => k_is)
    (case l28 => k_is)
    (case c28d => k_is)
    (case k28 => k_is)
    (case a29 => k_is)
    (case l29 => k_is)
    (case c29d => k_is)
    (case k29 => k_is)
    (case a30 => k_is)
    (case l30 => k_is)
    (case c30d => k_is)
    (case k30 => k_is)
    (case a31 => k_is)
    (case l31 => k_is)
    (case c31d => k_is)
    (case k31 => k_is)
    (case gCW => k_is)
    (case pgCW => k_is)
    (case hdCW => k_is)
    (case poCW => k_is)
    (case saCW => k_is)
    (case mkCW => k_is)
    (case kcCW => k_is)
    (case nCW_inside => k_is)
    (case nCW_asks => k_is)
    (case nCW_over => k_is)
    (case im0 => k_is)
    (case ym0 => k_is)
    (case lm0 => k_is)
    (case cm0d => k_is)
    (case km0 => k_is)
    (case im1 => k_is)
    (case ym1 => k_is)
    (case lm1 => k_is)
    (case cm1d => k_is)
    (case km1 => k_is)
    (case im2 => k_is)
    (case ym2 => k_is)
    (case lm2 => k_is)
    (case cm2d => k_is)
    (case km2 => k_is)
    (case im3 => k_is)
    (case ym3 => k_is)
    (case lm3 => k_is)
    (case cm3d => k_is)
    (case km3 => k_is)
    (case z_isinstance => k_is)
    (case z_int => k_is)
    (case z_bool => k_is)
    (case z_tuple => k_is)
    (case z_str => k_is)
    (case z_len => k_is)
    (case z_all => k_is)
    (case z_list => k_is)
    (case z_abs => k_is)
    (case z_range => k_is)
    (case z_zip => k_is)
    (case z_sorted => k_is)
    (case z_repr => k_is)
    (case z_enumerate => k_is)
    (case z_set => k_is)
    (case cst0 => k_is)
    (case cst1 => k_is)
    (case cst2 => k_is)
    (case gCO => k_is)
    (case v1 => k_is)
    (case v2 => k_is)
    (case gEBadRow => k_is)
    (case xEBadRow => kernel_rfl)
    (case kEBadRow => k_is)
    (case gEBadText => k_is)
    (case bEBadRow => k_is)
    (case tEBadRow => k_is)
    (case u1EBadRow => k_is)
    (case u2EBadRow => k_is)
    (case u3EBadRow => k_is)
    (case u4EBadRow => k_is)
    (case u5EBadRow => k_is)
    (case iEBadRow => kernel_rfl)
    (case eEBadRow => kernel_rfl)
    (case bEBadText => k_is)
    (case tEBadText => k_is)
    (case u1EBadText => k_is)
    (case u2EBadText => k_is)
    (case u3EBadText => k_is)
    (case u4EBadText => k_is)
    (case u5EBadText => k_is)
    (case iEBadText => kernel_rfl)
    (case eEBadText => kernel_rfl)
    (case zS => k_is)
    (case zT => k_is)
    (case zP => kernel_rfl)
    (case xEBadText => k_is)
    (case kEBadText => k_is)
    (case j1EBadText => k_is)
    (case j2EBadText => kernel_rfl)
    (case j3EBadText => k_is)
    (case j4EBadText => first | k_is | kernel_rfl)
    (case j5EBadText_line => k_is)
    (case j5EBadText_column => k_is)
    (case j6EBadText => k_is)
    (case j7EBadText => k_is)
    (case lEBadText => k_is)
    (case cEBadText => k_is)
    (case wEBadText => k_is)
    (case nEBadText => k_is)
    (case dEBadText => k_is)
    (case sEBadText => rfl)
    (case rEBadText => kernel_rfl)
    (case aNUM => k_is)
    (case lNUM => k_is)
    (case aDOR => k_is)
    (case lDOR => k_is)
    (case ne12 => decide)
    (case tH29 => kernel_rfl)
    (case tN29 => kernel_rfl)
    (case tH31 => kernel_rfl)
    (case tN31 => kernel_rfl)
