import PyProof.Rows.All
import Wide.All
import OpenK.AllK
import Wide.FinOn
import HandS.ForMost
import HandS.TupAny
import HandS.IsInst
import HandS.Deep
import HandS.Flow
import HandS.Style
import HandS.Small
import HandS.Codes
import KE.DataFind
import PyProof.StrOps2
import PySem.Challenge.RW_barelybetter_k11_kinds
import HandS.StrMore
import HandS.Text
import HandS.TryOnly
import HandS.Strs
import HandS.DictComp
import HandS.More
import HandS.Defaults
import KE.RegKIsAll
set_option Elab.async false
set_option linter.all false
set_option maxRecDepth 100000
set_option maxHeartbeats 4000000
/-! promises that hold where no repr is under way -/
namespace Gd
open PySem PySem.Spec PyProof.Rows L2
/-- no repr is under way around -/
abbrev Ng (A : Around) : Prop := A.guards = some []
/-- a def's promise where no repr is under way -/
structure FnG (P : Program) (w : World) (K : PySem.W.Frag) (mg : Str → Option Value)
    (base : Heap) (CX : CXT) (k : Nat) (f : Addr) (fd : FuncData) (ps : List Str) (sp : Sp) : Prop where
  lenG : ∀ vs H Q E, sp vs H Q E → vs.length = ps.length
  runG : ∀ (A : Around) (outer : List Env) (s : Shared) (H : Hp) (args : Args)
    (us : List Value) (vs : List V) (Q : VK) (E : XK), Ng A → Room k A →
    Env0 P w K mg base A outer s H → BindsTo s fd args (ps.zip us) → Vals vs us →
    sp vs H Q E → codeAny (model P w) A (.call (.ref f) args) (CR CX outer P w H s Q E) s
section
variable {P : Program} {w : World} {K : PySem.W.Frag} {mg : Str → Option Value} {base : Heap}
  {CX : CXT} {k j : Nat} {f : Addr} {fd : FuncData} {ps : List Str} {sp sp' : Sp}
theorem FnG.of (F : FnOk P w K mg base CX k f fd ps sp) : FnG P w K mg base CX k f fd ps sp :=
  ⟨F.len, fun A outer s H args us vs Q E _ hr => F.run A outer s H args us vs Q E hr⟩
theorem FnG.mono (F : FnG P w K mg base CX j f fd ps sp) (h : j ≤ k) : FnG P w K mg base CX k f fd ps sp :=
  ⟨F.lenG, fun A outer s H args us vs Q E g hr => F.runG A outer s H args us vs Q E g (hr.mono h)⟩
end
section
variable {X : Cx} {CX : CXT} {k : Nat} {f : Addr} {fd : FuncData} {ps : List Str} {sp : Sp}
  {dvs : List V} {ds : List Value} {E : XK} {x : Str} {p pos : Pos} {e : Expr} {es : List Expr} {t : TA}
theorem run_fnG {pins : List (Addr × Obj)} {σ : L2.St} {H : Hp} {s : Shared} {Q : VK} {us : List Value} {vs : List V}
    (F : FnG X.prog X.w X.K X.mg X.base CX k f fd ps sp) (hg : Ng X.A) (hr : Room k X.A)
    (hb : Binds X.K fd ps ds) (hd : Vals dvs ds) (hx : Passes CX X E)
    (I : Inv X pins σ H s) (r : Vals vs us) (h : sp (vs ++ dvs) H Q E) :
    wpAny (model X.prog X.w) X.A (call (.ref f) us) (EP X pins σ Q) X.xe s := by
  have rr : Vals (vs ++ dvs) (us ++ ds) := r.append hd
  have ll : (us ++ ds).length = ps.length := by
    have q := F.lenG _ _ _ _ h
    rw [← rr.length]
    exact q
  refine wpAny_call (codeAny_mono (F.runG X.A X.stack s H ⟨us, []⟩ (us ++ ds) (vs ++ dvs) Q E hg hr
    I.env0 (hb s us I.kIn ll) rr h) fun res s2 hh => ?_)
  match res, hh with
  | .error e, hh => exact hx pins σ H s e s2 I hh
  | .ok (.ret u), hh => exact I.after hh
  | .ok .next, hh => exact False.elim hh
  | .ok .brk, hh => exact False.elim hh
  | .ok .cont, hh => exact False.elim hh
theorem pe_callG (F : FnG X.prog X.w X.K X.mg X.base CX k f fd ps sp) (ng : Ng X.A) (hr : Room k X.A)
    (hg : Gl X x) (hm : X.mg x = some (.ref f)) (hk : PySem.W.keepIn X.K (.ref f) = true)
    (hb : Binds X.K fd ps ds) (hd : Vals dvs ds) (hx : Passes CX X E) (ha : PA X (e :: es) t)
    (hdb : (x == ("__debug__" : Str)) = false := by decide)
    (he : starEach (e :: es) X.env = (false, eval e X.env) :: starEach es X.env := by rfl)
    (hpl : (backTo pos (starEach es X.env)).any (·.1) = false := by rfl) :
    PE X (.Call (.Name x p) (e :: es) [] pos) (tCall sp dvs E t) := by
  refine ⟨fun pins s σ H Q I h => wpAny_Call_Name_kw (ld_glob I hg hm ?_ hdb)⟩
  refine PySem.W.callWith_K (h₀ := X.base) I.ok.mod.kin hk
    (thn (ha.run pos pins s σ H _ I h) fun us s1 hh => ?_) he hpl
  obtain ⟨vs, H1, I1, r, q⟩ := hh
  exact ⟨I1.kIn, run_fnG F ng hr hb hd hx I1 r q⟩
end
/-- a def of the text, by its body, where no repr is under way -/
theorem fn_ofG {CX : CXT} {P : Program} {w : World} {K : PySem.W.Frag} {mg : Str → Option Value} {base : Heap} {k : Nat}
    {f : Addr} {name qual : Str} {params : Arguments} {body : List Stmt} {scope : Scope}
    {dV kV doc pm cdv ct oc : Value} {an od : Option Addr} {osl : Array (Option Value)} {N ps : List Str} {sp : Sp}
    (lk : K.lookup f = some ⟨oc, od, .func (PySem.W.fnOf name qual params body scope dV kV doc pm an cdv ct), osl⟩)
    (hcd : PySem.W.codeIn K cdv qual = true) (S : FnScope N ps scope)
    (len : ∀ vs H Q E, sp vs H Q E → vs.length = ps.length)
    (hbody : ∀ (A : Around) (outer : List Env) (s : Shared) (H : Hp) (vs : List V) (Q : VK) (E : XK),
      Ng A → Room k (A.deeper (envOfC qual scope s.heap.objs.size f cdv)) → sp vs H Q E →
      ∃ t, PSs (cxOf CX P w K mg base N qual scope f cdv A outer s H E) body t ∧
        t { nx := fun _ H' => Q .non H', rt := Q } (start N vs) H) :
    FnG P w K mg base CX (k + 1) f (PySem.W.fnOf name qual params body scope dV kV doc pm an cdv ct) ps sp := by
  refine ⟨len, fun A outer s H args us vs Q E ng hr e0 hb r hsp => ?_⟩
  have ll := len _ _ _ _ hsp
  have kx : K.In s.heap := e0.mod.kin.keeps fun b o e => (e0.bs b o e).1
  have nl : s.heap.NoLimit := e0.mod.nolimit.keeps fun b o e => (e0.bs b o e).1
  have kinds : ∀ y ∈ ps.zip us, scope.names.lookup y.1 = some .local ∨
      (scope.names.lookup y.1 = some .cell ∧
        ((cellsFrom (s.heap.objs.size + 1) scope.names []).lookup y.1).isSome = true) := by
    intro y hy
    obtain ⟨n, v⟩ := y
    rcases S.par n (List.of_mem_zip hy).1 with q | q
    · exact .inl q
    · exact .inr ⟨q, PySem.W.cellsFrom_some _ _ _ (.inl q)⟩
  refine codeAny_call_function hr.depth (kx _ _ lk) rfl S.co S.gen rfl
    (PySem.W.codeRec_of kx hcd) (hb _ _ _ _ ?_)
  refine wpAny_newFunctionEnv_cells S.kind kinds fun env ee s1 z => ?_
  cases ee
  refine ⟨nl.keeps z.toInCall.keep, codeAny_func ?_⟩
  obtain ⟨t, ht, hq⟩ := hbody A outer s H vs Q E ng (hr.deeper _) hsp
  have J0 : Inv (cxOf CX P w K mg base N qual scope f cdv A outer s H E) [] (start N vs) H s1 :=
    inv_start S hr.hd e0 ll r z
  refine wpAny_mono (ht.run [] s1 (start N vs) H _ J0 hq) (fun fl s2 hs => ?_) fun e s2 hs => hs
  match fl, hs with
  | .ret u, ⟨v, σ', H', J, rv, q⟩ => exact ⟨v, H', J.os, J.bare, J.base, J.hok, rv, q⟩
  | .next, ⟨σ', H', J, q⟩ => exact ⟨V.non, H', J.os, J.bare, J.base, J.hok, rfl, q⟩
  | .brk, ⟨_, _, _, q⟩ => exact False.elim q
  | .cont, ⟨_, _, _, q⟩ => exact False.elim q
theorem okG {P : Program} {w : World} {K : PySem.W.Frag} {mg : Str → Option Value} {base : Heap} {x qual : Str} {st : Stmt}
    {f : Addr} {fd : FuncData} {N ps : List Str} {k : Nat} {sp : Sp} (F : Fun K x qual st f fd)
    (S : FnScope N ps (defScope st)) (len : ∀ vs H Q E, sp vs H Q E → vs.length = ps.length)
    (hbody : ∀ (cdv : Value) (A : Around) (outer : List Env) (s : Shared) (H : Hp) (vs : List V) (Q : VK) (E : XK),
      Ng A → Room k (A.deeper (envOfC qual (defScope st) s.heap.objs.size f cdv)) → sp vs H Q E →
      ∃ t, PSs (cxOf CX0 P w K mg base N qual (defScope st) f cdv A outer s H E).nox (defBody st) t ∧
        t { nx := fun _ H' => Q .non H', rt := Q } (start N vs) H) :
    FnG P w K mg base CX0 (k + 1) f fd ps sp := by
  obtain ⟨oc, od, kV, doc, pm, an, cdv, ct, osl, rfl, lk, hcd⟩ := F.ex
  refine fn_ofG lk hcd S len fun A outer s H vs Q E ng hr hsp => ?_
  obtain ⟨t, h, q⟩ := hbody cdv A outer s H vs Q E ng hr hsp
  exact ⟨t, h.nox, q⟩
/-- the head's end: the law's own promise, where no repr is under way -/
theorem law_callG {P : Program} {w : World} {K : PySem.W.Frag} {mg mb : Str → Option Value} {CX : CXT} {k : Nat} {fa a : Addr}
    {fd : FuncData} {x : Str} {sp : Sp} {s₁ : Shared} {vs : List Value} {ns : List Int}
    (KX : K.In s₁.heap) (hns : s₁.heap.Ns mainGlobals mg) (hb : s₁.heap.Ns builtinsNs mb)
    (hbb : ∀ x : Str, x ≠ "__name__" → mb x = bootBuiltins x) (hlim : s₁.heap.NoLimit) (hg : s₁.gens = #[])
    (ha : s₁.heap.get? a = some { cls := .type "list", data := .seq vs.toArray }) (hi : IntsAre vs ns)
    (hl : ns.length ≤ sizeLine) (hr : Room k callerA)
    (F : ∀ base : Heap, K.In base → base.Ns mainGlobals mg → FnG P w K mg base CX k fa fd [x] sp)
    (hbind : ∀ (s : Shared) (u : Value), BindsTo s fd ⟨[u], []⟩ [(x, u)])
    (hsp : ∀ H : Hp, Only H → SqL K H a (ns.map V.int) → sp [.ref a] H (fun v _ => v = .bl true) fun _ _ _ => False)
    (hCX : ∀ H e s', CX [] H s₁ (fun _ _ _ => False) e s' → False) :
    codeAny (model P w) callerA (.call (.ref fa) ⟨[.ref a], []⟩)
      (fun r s' => r = .ok (.ret (.bool true)) ∧ OldK s₁.heap s'.heap ∧ s'.os = s₁.os ∧ AllBare s'.gens) s₁ := by
  have rv := vals_ints hi
  have lv := hi.length
  have core : ∀ H : Hp, Only H → SqL K H a (ns.map V.int) → HOk P w H s₁.heap → (∀ b, H b ≠ none → b = a) →
      (H a ≠ none → K.lookup a = none) → codeAny (model P w) callerA (.call (.ref fa) ⟨[.ref a], []⟩)
      (fun r s' => r = .ok (.ret (.bool true)) ∧ OldK s₁.heap s'.heap ∧ s'.os = s₁.os ∧ AllBare s'.gens) s₁ := by
    intro H hO hS hok hA hK
    have only_a : ∀ {b : Addr}, b ≠ a → H b = none := fun {b} nb => by
      cases q : H b with
      | none => rfl
      | some u => exact absurd (hA b (by rw [q]; simp)) nb
    have hid : ∀ {b : Addr} {o : Obj}, s₁.heap.get? b = some o → H b = none → (hidT s₁.heap H).get? b = some o :=
      fun e n => hidT_get e n
    have noD : ∀ {b : Addr} {o : Obj} {es : Array DictEntry} {ep : Nat},
        s₁.heap.get? b = some o → o.data = .dict es ep → H b = none := fun {b o es ep} e d => by
      by_cases nb : b = a
      · subst nb
        rw [ha] at e
        cases e
        cases (show Data.seq vs.toArray _ = Data.dict es ep from d)
      · exact only_a nb
    have nsK : ∀ {b : Addr} {m : Str → Option Value}, s₁.heap.Ns b m → (hidT s₁.heap H).Ns b m :=
      fun {b m} ⟨o, es, ep, e, d, r⟩ => ⟨o, es, ep, hid e (noD e d), d, r⟩
    have hKb : K.In (hidT s₁.heap H) := fun b o e => by
      refine hid (KX b o e) ?_
      by_cases nb : b = a
      · subst nb
        cases q : H b with
        | none => rfl
        | some u =>
          rw [hK (by rw [q]; simp)] at e
          cases e
      · exact only_a nb
    have hM : Mod K mg (hidT s₁.heap H) :=
      ⟨hKb, nsK hns, ⟨mb, nsK hb, hbb⟩, let ⟨mc, h1, h2⟩ := hlim; ⟨mc, nsK h1, h2⟩⟩
    have nil_in : ∀ b : Addr, b ∉ frs [] := fun b z => absurd (show b ∈ ([] : List Addr) from z) (by simp)
    have e0 : Env0 P w K mg (hidT s₁.heap H) callerA [] s₁ H :=
      ⟨rfl, hM, fun b o e => of_hidT e, Nat.le_of_eq (hidT_size _ _), trivial, fun b z => (nil_in b z).elim, hok, .of_eq hg⟩
    refine codeAny_mono ((F _ hKb (nsK hns)).runG callerA [] s₁ H ⟨[.ref a], []⟩ [.ref a] [.ref a] _ _ rfl hr e0
      (hbind s₁ (.ref a)) (.cons rfl .nil) (hsp H hO hS)) fun r s' h => ?_
    match r, h with
    | .error e, h => exact (hCX H e s' h).elim
    | .ok .next, h => exact False.elim h
    | .ok .brk, h => exact False.elim h
    | .ok .cont, h => exact False.elim h
    | .ok (.ret u), ⟨v, H', os, bare, un, hok', r', q⟩ =>
      have q' : v = .bl true := q
      subst q'
      obtain rfl : u = Value.bool true := r'
      refine ⟨rfl, OldK.of_keep fun b o e => ?_, os, bare⟩
      cases q : H b with
      | none => exact un.keep b o e q (nil_in b) (by simp)
      | some u =>
        rcases hO b with z | ⟨ob, xs, z⟩
        · rw [q] at z
          cases z
        · have z2 := un.frzs b ob _ z
          obtain ⟨e1, _⟩ := hok b _ z
          obtain ⟨e2, _⟩ := hok' b _ z2
          rw [e] at e1
          cases e1
          exact e2
  cases hk : K.lookup a with
  | some o =>
    have e := KX a o hk
    rw [ha] at e
    cases e
    refine core (fun _ => none) (fun _ => .inl rfl)
      (.inr ⟨_, vs.toArray, _, hk, rfl, rfl, rfl, by rw [List.size_toArray, lv]; exact hl, by simpa using rv⟩)
      (fun b u z => ?_) (fun b z => absurd rfl z) fun z => absurd rfl z
    cases (show (none : Option HO) = some u from z)
  | none =>
    have at_a : (fun b => if b = a then some (HO.frz { cls := .type "list", data := .seq vs.toArray } (.lst (ns.map V.int))) else none) a
        = some (HO.frz { cls := .type "list", data := .seq vs.toArray } (.lst (ns.map V.int))) := if_pos rfl
    refine core (fun b => if b = a then some (HO.frz { cls := .type "list", data := .seq vs.toArray } (.lst (ns.map V.int))) else none)
      (fun b => ?_) (.inl (.inr ⟨{ cls := .type "list", data := .seq vs.toArray }, at_a⟩)) (fun b u z => ?_) (fun b z => ?_) fun _ => hk
    · by_cases hb : b = a
      · exact .inr ⟨_, _, if_pos hb⟩
      · exact .inl (if_neg hb)
    · by_cases hb : b = a
      · have z' := (if_pos hb).symm.trans z
        cases z'
        subst hb
        exact ⟨ha, by rw [List.length_map]; exact hl, vs, _, rv, ha⟩
      · have z' := (if_neg hb).symm.trans z
        cases z'
    · by_cases hb : b = a
      · exact hb
      · exact absurd (if_neg hb) z
theorem walk_ofG {l : PySem.W.OpenLaw} {n k : Nat} {q : Program} {loose : List Str} {XP : (Str → Option Value) → Heap → Prop}
    {YP : World → Heap → Prop} {d : DefRec} {K : Params → PySem.W.Frag} {CX : World → CXT} {sp : World → Sp} {x : Str}
    (hn : l.most = some n) (hn2 : n ≤ sizeLine) (hdf : d.params.defaults = []) (hr : Room k callerA)
    (hY : ∀ (w : World) (h : Heap), YP w h → (K w.params).In h)
    (F : ∀ (w : World) (mg : Str → Option Value) (fa : Addr) (h : Heap), (K w.params).In h → h.Ns mainGlobals mg →
      mg d.name = some (.ref fa) → ∃ fd : FuncData, (∀ (s : Shared) (u : Value), BindsTo s fd ⟨[u], []⟩ [(x, u)]) ∧
        ∀ base : Heap, (K w.params).In base → base.Ns mainGlobals mg → FnG l.prog w (K w.params) mg base (CX w) k fa fd [x] (sp w))
    (hsp : ∀ (w : World) (H : Hp) (a : Addr) (ns : List Int), ns.length ≤ n → Only H → SqL (K w.params) H a (ns.map V.int) →
      sp w [.ref a] H (fun v _ => v = .bl true) fun _ _ _ => False)
    (hCX : ∀ (w : World) (H : Hp) (s : Shared) (e : Value) (s' : Shared), CX w [] H s (fun _ _ _ => False) e s' → False) :
    PySem.W.WalkO q loose XP YP l.row.toRowW d [] (fun f vs => PySem.call f vs) := by
  refine Att.attach_call hn hdf fun w s₀ s₁ mg mb fa o pm cd doc a vs ns G Y ho hd hcd hmg hobj hints hlen hg => ?_
  have kx := hY w _ Y
  obtain ⟨fd, hb, hF⟩ := F w mg fa _ kx G.T.g hmg
  exact law_callG kx G.T.g G.T.b G.T.builtins G.T.nolimit hg hobj hints (Nat.le_trans hlen hn2) hr hF hb
    (fun H hO hS => hsp w H a ns hlen hO hS) fun H e s' => hCX w H s₁ e s'
end Gd

/-! data at any depth, dicts too, and their repr -/
namespace Gd
open PySem PySem.Spec PyProof.Rows L2
def keyD : Key → PyData
  | .inl i => .int i
  | .inr x => .str x
/-- a tuple made here, just a tuple: its object is known -/
def TupAt (H : Hp) (a : Addr) (xs : List V) : Prop := ∃ o : Obj, o.dict = none ∧ H a = some (.frz o (.tup xs))
theorem TupAt.some {H : Hp} {a : Addr} {xs : List V} (h : TupAt H a xs) : ∃ u, H a = Option.some u := let ⟨o, _, e⟩ := h; ⟨_, e⟩
theorem TupAt.seq {K : PySem.W.Frag} {H : Hp} {a : Addr} {xs : List V} (h : TupAt H a xs) : SqT K H a xs := let ⟨o, _, e⟩ := h; .inl (.inr ⟨o, e⟩)
mutual
inductive Da (F : List Addr) (H : Hp) : V → PyData → Prop
  | non : Da F H .non .none
  | bl (b : Bool) : Da F H (.bl b) (.bool b)
  | int (i : Int) : Da F H (.int i) (.int i)
  | str (x : Str) : Da F H (.str x) (.str x)
  | lst {a : Addr} {xs : List V} {ds : List PyData} : a ∉ F → H a = some (.lst xs) → Das F H xs ds → Da F H (.ref a) (.list ds)
  | tup {a : Addr} {xs : List V} {ds : List PyData} : a ∉ F → TupAt H a xs → Das F H xs ds → Da F H (.ref a) (.tuple ds)
  | dct {a : Addr} {kvs : List (Key × V)} {ps : List (PyData × PyData)} : a ∉ F → H a = some (.dK kvs) →
      ps.map (·.1) = kvs.map (fun kv => keyD kv.1) → Das F H (kvs.map (·.2)) (ps.map (·.2)) → Da F H (.ref a) (.dict ps)
inductive Das (F : List Addr) (H : Hp) : List V → List PyData → Prop
  | nil : Das F H [] []
  | cons {v : V} {vs : List V} {d : PyData} {ds : List PyData} : Da F H v d → Das F H vs ds → Das F H (v :: vs) (d :: ds)
end
/-- all but what stands at F is as it was -/
def Gr (F : List Addr) (H H' : Hp) : Prop := ∀ p u, p ∉ F → H p = some u → H' p = some u
theorem Gr.refl (F : List Addr) (H : Hp) : Gr F H H := fun _ _ _ h => h
theorem Gr.trans {F : List Addr} {H H1 H2 : Hp} (a : Gr F H H1) (b : Gr F H1 H2) : Gr F H H2 := fun p u n h => b p u n (a p u n h)
theorem Gr.wide {F G : List Addr} {H H' : Hp} (a : Gr F H H') (s : ∀ p ∈ F, p ∈ G) : Gr G H H' := fun p u n h => a p u (fun m => n (s p m)) h
theorem Gr.new {F : List Addr} {H : Hp} {p : Addr} {o : HO} (h : H p = none) : Gr F H (upd H p o) := fun q u _ e => by
  rw [upd_ne (ne_of_none e h)]
  exact e
theorem Gr.at {F : List Addr} {H : Hp} {p : Addr} {o : HO} (h : p ∈ F) : Gr F H (upd H p o) := fun q u n e => by
  rw [upd_ne (fun z => n (by rw [z]; exact h))]
  exact e
mutual
theorem Da.gr {F : List Addr} {H H' : Hp} (e : Gr F H H') : ∀ {v : V} {d : PyData}, Da F H v d → Da F H' v d
  | _, _, .non => .non
  | _, _, .bl b => .bl b
  | _, _, .int i => .int i
  | _, _, .str x => .str x
  | _, _, .lst n h k => .lst n (e _ _ n h) (Das.gr e k)
  | _, _, .tup n h k => .tup n (let ⟨o, d, q⟩ := h; ⟨o, d, e _ _ n q⟩) (Das.gr e k)
  | _, _, .dct n h q k => .dct n (e _ _ n h) q (Das.gr e k)
theorem Das.gr {F : List Addr} {H H' : Hp} (e : Gr F H H') : ∀ {vs : List V} {ds : List PyData}, Das F H vs ds → Das F H' vs ds
  | _, _, .nil => .nil
  | _, _, .cons h k => .cons (Da.gr e h) (Das.gr e k)
end
mutual
theorem Da.bar {F : List Addr} {H : Hp} {p : Addr} (e : H p = none) : ∀ {v : V} {d : PyData}, Da F H v d → Da (p :: F) H v d
  | _, _, .non => .non
  | _, _, .bl b => .bl b
  | _, _, .int i => .int i
  | _, _, .str x => .str x
  | _, _, .lst n h k => .lst (fun m => (List.mem_cons.mp m).elim (fun z => ne_of_none h e z) n) h (Das.bar e k)
  | _, _, .tup n h k => .tup (fun m => (List.mem_cons.mp m).elim (fun z => let ⟨_, _, q⟩ := h; ne_of_none q e z) n) h (Das.bar e k)
  | _, _, .dct n h q k => .dct (fun m => (List.mem_cons.mp m).elim (fun z => ne_of_none h e z) n) h q (Das.bar e k)
theorem Das.bar {F : List Addr} {H : Hp} {p : Addr} (e : H p = none) : ∀ {vs : List V} {ds : List PyData}, Das F H vs ds → Das (p :: F) H vs ds
  | _, _, .nil => .nil
  | _, _, .cons h k => .cons (Da.bar e h) (Das.bar e k)
end
mutual
theorem Da.less {F G : List Addr} {H : Hp} (s : ∀ p ∈ G, p ∈ F) : ∀ {v : V} {d : PyData}, Da F H v d → Da G H v d
  | _, _, .non => .non
  | _, _, .bl b => .bl b
  | _, _, .int i => .int i
  | _, _, .str x => .str x
  | _, _, .lst n h k => .lst (fun m => n (s _ m)) h (Das.less s k)
  | _, _, .tup n h k => .tup (fun m => n (s _ m)) h (Das.less s k)
  | _, _, .dct n h q k => .dct (fun m => n (s _ m)) h q (Das.less s k)
theorem Das.less {F G : List Addr} {H : Hp} (s : ∀ p ∈ G, p ∈ F) : ∀ {vs : List V} {ds : List PyData}, Das F H vs ds → Das G H vs ds
  | _, _, .nil => .nil
  | _, _, .cons h k => .cons (Da.less s h) (Das.less s k)
end
theorem Das.length {F : List Addr} {H : Hp} : ∀ {vs : List V} {ds : List PyData}, Das F H vs ds → vs.length = ds.length
  | _, _, .nil => rfl
  | _, _, .cons _ k => congrArg (· + 1) k.length
theorem Das.app {F : List Addr} {H : Hp} : ∀ {vs ws : List V} {ds es : List PyData}, Das F H vs ds → Das F H ws es → Das F H (vs ++ ws) (ds ++ es)
  | _, _, _, _, .nil, k => k
  | _, _, _, _, .cons h t, k => .cons h (t.app k)
theorem Das.get {F : List Addr} {H : Hp} : ∀ {vs : List V} {ds : List PyData} {i : Nat} {v : V}, Das F H vs ds → vs[i]? = some v → ∃ d, ds[i]? = some d ∧ Da F H v d
  | _, _, 0, v, .cons (d := d) h t, e => ⟨d, rfl, by cases (show some _ = some v from e); exact h⟩
  | _, _, i + 1, v, .cons h t, e => t.get (i := i) e
theorem Das.of_get {F : List Addr} {H : Hp} : ∀ {vs : List V} {ds : List PyData} {i : Nat} {d : PyData}, Das F H vs ds → ds[i]? = some d → ∃ v, vs[i]? = some v ∧ Da F H v d
  | _, _, 0, d, .cons (v := v) h t, e => ⟨v, rfl, by cases (show some _ = some d from e); exact h⟩
  | _, _, i + 1, d, .cons h t, e => t.of_get (i := i) e
theorem Das.rep {F : List Addr} {H : Hp} {v : V} {d : PyData} (h : Da F H v d) : ∀ n : Nat, Das F H (List.replicate n v) (List.replicate n d)
  | 0 => .nil
  | n + 1 => .cons h (Das.rep h n)
theorem Das.drop {F : List Addr} {H : Hp} : ∀ {vs : List V} {ds : List PyData}, Das F H vs ds → ∀ n : Nat, Das F H (vs.drop n) (ds.drop n)
  | _, _, h, 0 => h
  | _, _, .nil, n + 1 => .nil
  | _, _, .cons _ t, n + 1 => t.drop n
theorem Das.take {F : List Addr} {H : Hp} : ∀ {vs : List V} {ds : List PyData}, Das F H vs ds → ∀ n : Nat, Das F H (vs.take n) (ds.take n)
  | _, _, _, 0 => .nil
  | _, _, .nil, n + 1 => .nil
  | _, _, .cons h t, n + 1 => .cons h (t.take n)
mutual
/-- a list somewhere in it -/
def hasList : PyData → Bool
  | .none | .bool _ | .int _ | .str _ => false
  | .list _ => true
  | .tuple xs => hasListAll xs
  | .dict kvs => hasListKv kvs
def hasListAll : List PyData → Bool
  | [] => false
  | x :: xs => hasList x || hasListAll xs
def hasListKv : List (PyData × PyData) → Bool
  | [] => false
  | (k, v) :: r => hasList k || hasList v || hasListKv r
end
theorem hasListKv_vals : ∀ {ps : List (PyData × PyData)}, hasListKv ps = false → hasListAll (ps.map (·.2)) = false
  | [], _ => rfl
  | (k, v) :: r, h => by
    have h' : (hasList k || hasList v || hasListKv r) = false := h
    simp only [Bool.or_eq_false_iff] at h'
    show (hasList v || hasListAll (r.map (·.2))) = false
    rw [h'.1.2, hasListKv_vals h'.2]
    rfl
theorem reads_keys {P : Program} {w : World} {h : Heap} : ∀ {es : List DictEntry} {kvs : List (Key × Value)}, Pairs (mixKind P w) es kvs →
    ReadsAll h (es.map (·.key)) (kvs.map fun kv => keyD kv.1) []
  | [], [], _ => .nil
  | e :: es, kv :: kvs, p => by
    cases p with
    | cons h1 h2 t =>
      have q := reads_keys (h := h) t
      have z : Reads h e.key (keyD kv.1) [] := by
        rcases keyIs_shape h1 with ⟨i, tk, e1, e2⟩ | ⟨x, tk, e1, e2⟩
        · rw [e1, e2]
          exact Reads.int i tk
        · rw [e1, e2]
          exact Reads.str x tk
      exact ReadsAll.cons z q
theorem pairs_vals {P : Program} {w : World} : ∀ {es : List DictEntry} {kvs : List (Key × Value)}, Pairs (mixKind P w) es kvs → es.map (·.val) = kvs.map (·.2)
  | [], [], _ => rfl
  | e :: es, kv :: kvs, p => by
    cases p with
    | cons h1 h2 t =>
      show e.val :: es.map (·.val) = kv.2 :: kvs.map (·.2)
      rw [h2, pairs_vals t]
theorem kv_parts : ∀ {kvs : List (Key × V)} {vs : List (Key × Value)}, KV kvs vs → kvs.map (fun kv => keyD kv.1) = vs.map (fun kv => keyD kv.1) ∧ Vals (kvs.map (·.2)) (vs.map (·.2)) := by
  intro kvs vs h
  unfold KV at h
  induction h with
  | nil => exact ⟨rfl, .nil⟩
  | @cons p q ps qs h t k =>
    refine ⟨?_, .cons h.2 k.2⟩
    show keyD p.1 :: _ = keyD q.1 :: _
    rw [h.1, k.1]
section
variable {X : Cx} {pins : List (Addr × Obj)} {σ : L2.St} {H : Hp} {s : Shared} {F : List Addr}
mutual
theorem Da.reads (I : Inv X pins σ H s) : ∀ (d : PyData) (v : V) (u : Value), Da F H v d → RelV v u → ∃ as, Reads s.heap u d as ∧ (hasList d = false → sysModules ∉ as)
  | .none, _, _, h, r => by
    cases h
    cases r
    exact ⟨_, Reads.none, fun _ => by simp⟩
  | .bool b, _, _, h, r => by
    cases h
    cases r
    exact ⟨_, Reads.bool b, fun _ => by simp⟩
  | .int i, _, _, h, r => by
    cases h
    obtain ⟨t, rfl⟩ := r
    exact ⟨_, Reads.int i t, fun _ => by simp⟩
  | .str x, _, _, h, r => by
    cases h
    obtain ⟨t, rfl⟩ := r
    exact ⟨_, Reads.str x t, fun _ => by simp⟩
  | .list ds, _, u, h, r => by
    cases h with
    | @lst a xs _ nf ha hd =>
      obtain rfl : u = Value.ref a := r
      obtain ⟨its, rv, pl, _⟩ := I.list (.inl (.inl ha))
      obtain ⟨as, hr, _⟩ := Das.reads I ds xs its hd rv
      obtain ⟨o, ho, hc, n, hn⟩ := pl.isList
      exact ⟨_, Reads.list ho hc hn (by simpa using hr), fun z => nomatch z⟩
  | .tuple ds, _, u, h, r => by
    cases h with
    | @tup a xs _ nf ha hd =>
      obtain rfl : u = Value.ref a := r
      obtain ⟨its, rv, pl, _⟩ := I.tuple ha.seq
      obtain ⟨as, hr, hn⟩ := Das.reads I ds xs its hd rv
      obtain ⟨o, ho, hc, n, hdt⟩ := pl
      exact ⟨_, Reads.tuple ho hc hdt (by simpa using hr), fun z => hn z⟩
  | .dict ps, _, u, h, r => by
    cases h with
    | @dct a kvs _ nf ha hk hd =>
      obtain rfl : u = Value.ref a := r
      obtain ⟨_, nm, vs, kv, o, es, ep, ho, hx, hdt, _, hp, _⟩ := (show ObjOk X.prog X.w H s.heap a (.dK kvs) from I.hok a _ ha)
      obtain ⟨e1, rv⟩ := kv_parts kv
      obtain ⟨as, hr, hn⟩ := DasKv.reads I ps (kvs.map (·.2)) (vs.map (·.2)) hd rv
      have q1 := reads_keys (h := s.heap) hp
      rw [← e1, ← hk] at q1
      rw [← pairs_vals hp] at hr
      refine ⟨_, Reads.dict ho hx.1 hdt q1 hr, fun z m => ?_⟩
      rcases List.mem_append.mp m with m | m
      · rcases List.mem_cons.mp m with m | m
        · rw [← m] at nm
          simp at nm
        · exact nomatch m
      · exact hn (hasListKv_vals z) m
theorem Das.reads (I : Inv X pins σ H s) : ∀ (ds : List PyData) (vs : List V) (us : List Value), Das F H vs ds → Vals vs us → ∃ as, ReadsAll s.heap us ds as ∧ (hasListAll ds = false → sysModules ∉ as)
  | [], _, _, h, r => by
    cases h
    cases r
    exact ⟨_, ReadsAll.nil, fun _ => by simp⟩
  | d :: ds, _, _, h, r => by
    cases h with
    | cons h1 h2 =>
      cases r with
      | cons r1 r2 =>
        obtain ⟨as, q1, n1⟩ := Da.reads I d _ _ h1 r1
        obtain ⟨bs, q2, n2⟩ := Das.reads I ds _ _ h2 r2
        refine ⟨_, ReadsAll.cons q1 q2, fun z m => ?_⟩
        have z' : (hasList d || hasListAll ds) = false := z
        simp only [Bool.or_eq_false_iff] at z'
        rcases List.mem_append.mp m with m | m
        · exact n1 z'.1 m
        · exact n2 z'.2 m
theorem DasKv.reads (I : Inv X pins σ H s) : ∀ (ps : List (PyData × PyData)) (vs : List V) (us : List Value), Das F H vs (ps.map (·.2)) → Vals vs us → ∃ as, ReadsAll s.heap us (ps.map (·.2)) as ∧ (hasListAll (ps.map (·.2)) = false → sysModules ∉ as)
  | [], _, _, h, r => by
    cases h
    cases r
    exact ⟨_, ReadsAll.nil, fun _ => by simp⟩
  | (k, d) :: ps, _, _, h, r => by
    cases h with
    | cons h1 h2 =>
      cases r with
      | cons r1 r2 =>
        obtain ⟨as, q1, n1⟩ := Da.reads I d _ _ h1 r1
        obtain ⟨bs, q2, n2⟩ := DasKv.reads I ps _ _ h2 r2
        refine ⟨_, ReadsAll.cons q1 q2, fun z m => ?_⟩
        have z' : (hasList d || hasListAll (ps.map (·.2))) = false := z
        simp only [Bool.or_eq_false_iff] at z'
        rcases List.mem_append.mp m with m | m
        · exact n1 z'.1 m
        · exact n2 z'.2 m
end
end
/-- what can be shown -/
structure Shown (d : PyData) : Prop where
  ok : d.showable = true
  deep : d.depth ≤ 60
  len : d.shown.length ≤ sizeLine
  kind : d.hasDict = true → hasList d = false
def rRepr : List V → Hp → VK → Prop := fun xs H Q => ∃ F v d, xs = [v] ∧ Da F H v d ∧ Shown d ∧ Q (.str d.shown) H
theorem call_repr {X : Cx} (ng : Ng X.A) (hu : X.A.units + 64 < cLine) : CallR X (.builtin "repr") rRepr := by
  intro pins s σ H xs us Q I r h
  obtain ⟨F, v, d, rfl, hd, sh, q⟩ := h
  cases r with
  | @cons _ u _ _ r1 r2 =>
    cases r2
    obtain ⟨as, hr, hn⟩ := Da.reads I d v u hd r1
    have fin : ∀ (h' : Heap) (tk : Tok) (tt : Nat), (∀ b o, s.heap.get? b = some o → h'.get? b = some o) → EP X pins σ Q (.str d.shown tk) { s with heap := h', toks := tt } :=
      fun h' tk tt k => ⟨.str d.shown, H, I.kept k, ⟨tk, rfl⟩, q⟩
    cases hd with
    | non => cases r1; exact P.repr_of_none (fin _ _ _ fun _ _ e => e)
    | bl b => cases r1; exact P.repr_of_bool (fin _ _ _ fun _ _ e => e)
    | int i =>
      obtain ⟨t, rfl⟩ := r1
      exact P.repr_of_int (by have := sh.ok; simpa [PyData.showable] using this) (fin _ _ _ fun _ _ e => e)
    | str x =>
      obtain ⟨t, rfl⟩ := r1
      exact P.repr_of_str (fin _ _ _ fun _ _ e => e) sh.len
    | @lst a _ _ _ ha hb =>
      obtain rfl : u = Value.ref a := r1
      exact repr_of_reads' hr sh.ok (fun z => hn (sh.kind z)) ng (by have := sh.deep; omega) (fun _ _ e => e) (fun h' u tk k => fin h' u tk k) sh.len
    | @tup a _ _ _ ha hb =>
      obtain rfl : u = Value.ref a := r1
      exact repr_of_reads' hr sh.ok (fun z => hn (sh.kind z)) ng (by have := sh.deep; omega) (fun _ _ e => e) (fun h' u tk k => fin h' u tk k) sh.len
    | @dct a _ _ _ ha hb hc =>
      obtain rfl : u = Value.ref a := r1
      exact repr_of_reads' hr sh.ok (fun z => hn (sh.kind z)) ng (by have := sh.deep; omega) (fun _ _ e => e) (fun h' u tk k => fin h' u tk k) sh.len
end Gd

/-! a small logic over data: what an expression gives, as data; what a block does, over slots told as data -/
namespace Gd
open PySem PySem.Spec PyProof.Rows L2
abbrev Bag := Option (Addr × Addr)
def ob : Bag → List Addr
  | some (b, _) => [b]
  | none => []
/-- the bag: its numbers, and its list of cells at l -/
def Bg (b l : Addr) (H : Hp) : Prop := ∃ (n0 n1 n2 : Int) (ns : List Int),
  H b = some (.lst [.int n0, .int n1, .int n2, .ref l]) ∧ H l = some (.lst (ns.map V.int)) ∧ ns.length ≤ 100
abbrev Ch (B : Bag) (H H' : Hp) : Prop := Gr (ob B) H H'
structure St (Hi : List Hp) (F : List Addr) (B : Bag) (H : Hp) : Prop where
  ch : ∀ A ∈ Hi, Ch B A H
  tr : ∀ p ∈ F, H p ≠ none
  bag : ∀ b l, B = some (b, l) → b ∈ F ∧ l ∈ F ∧ b ≠ l ∧ Bg b l H
inductive Ab where
  | any
  | bag
  | dat (d : PyData)
  | obj (R : V → Hp → Prop)
def Stab (F : List Addr) (R : V → Hp → Prop) : Prop := ∀ v H H', Gr F H H' → R v H → R v H'
def SlOk (F : List Addr) (B : Bag) (H : Hp) : Ab → Option V → Prop
  | .any, _ => True
  | .bag, o => ∃ b l, B = some (b, l) ∧ o = some (.ref b)
  | .dat d, o => ∃ v, o = some v ∧ Da F H v d
  | .obj R, o => Stab F R ∧ ∃ v, o = some v ∧ R v H
structure Sl (F : List Addr) (B : Bag) (H : Hp) (σ : L2.St) (ab : List Ab) : Prop where
  len : σ.length = ab.length
  ok : ∀ (i : Nat) (a : Ab) (o : Option V), ab[i]? = some a → σ[i]? = some o → SlOk F B H a o
section
variable {Hi : List Hp} {H H' : Hp} {F : List Addr} {B : Bag} {σ : L2.St} {ab : List Ab}
theorem ob_sub (s : St Hi F B H) : ∀ p ∈ ob B, p ∈ F := by
  intro p m
  match B, s, m with
  | some (b, l), s, m =>
    have e : p = b := by simpa [ob] using m
    rw [e]
    exact (s.bag b l rfl).1
  | none, s, m => exact nomatch m
theorem Ch.wide (c : Ch B H H') (s : St Hi F B H) : Gr F H H' := Gr.wide c (ob_sub s)
theorem SlOk.gr {a : Ab} {o : Option V} (g : Gr F H H') : SlOk F B H a o → SlOk F B H' a o := by
  cases a with
  | any => exact fun h => h
  | bag => exact fun h => h
  | dat d => exact fun ⟨v, e, h⟩ => ⟨v, e, h.gr g⟩
  | obj R => exact fun ⟨s, v, e, h⟩ => ⟨s, v, e, s v H H' g h⟩
theorem Sl.gr (g : Gr F H H') (h : Sl F B H σ ab) : Sl F B H' σ ab := ⟨h.len, fun i a o e1 e2 => (h.ok i a o e1 e2).gr g⟩
theorem Sl.set {i : Nat} {a : Ab} {v : V} (h : Sl F B H σ ab) (k : SlOk F B H a (some v)) : Sl F B H (σ.set i (some v)) (ab.set i a) := by
  refine ⟨by rw [List.length_set, List.length_set]; exact h.len, fun j a' o e1 e2 => ?_⟩
  by_cases ij : i = j
  · subst ij
    rw [List.getElem?_set] at e1 e2
    simp only [if_pos] at e1 e2
    split at e1
    · split at e2
      · cases e1
        cases e2
        exact k
      · cases e2
    · cases e1
  · rw [List.getElem?_set_ne ij] at e1 e2
    exact h.ok j a' o e1 e2
theorem Sl.get {i : Nat} {a : Ab} (h : Sl F B H σ ab) (e : ab[i]? = some a) : ∃ o, σ[i]? = some o ∧ SlOk F B H a o := by
  have l : i < σ.length := by
    rw [h.len]
    exact (List.getElem?_eq_some_iff.mp e).1
  exact ⟨σ[i], List.getElem?_eq_getElem l, h.ok i a _ e (List.getElem?_eq_getElem l)⟩
theorem Sl.dat {i : Nat} {d : PyData} (h : Sl F B H σ ab) (e : ab[i]? = some (.dat d)) : ∃ v, σ[i]? = some (some v) ∧ Da F H v d := by
  obtain ⟨o, e2, v, ev, k⟩ := h.get e
  exact ⟨v, by rw [e2, ev], k⟩
theorem Sl.obj {i : Nat} {R : V → Hp → Prop} (h : Sl F B H σ ab) (e : ab[i]? = some (.obj R)) : ∃ v, σ[i]? = some (some v) ∧ R v H := by
  obtain ⟨o, e2, _, v, ev, k⟩ := h.get e
  exact ⟨v, by rw [e2, ev], k⟩
theorem Sl.bag {i : Nat} (h : Sl F B H σ ab) (e : ab[i]? = some .bag) : ∃ b l, B = some (b, l) ∧ σ[i]? = some (some (.ref b)) := by
  obtain ⟨o, e2, b, l, eb, eo⟩ := h.get e
  exact ⟨b, l, eb, by rw [e2, eo]⟩
/-- the state grows where nothing but the bag changes -/
theorem St.to (s : St Hi F B H) (c : Ch B H H') (k : ∀ b l, B = some (b, l) → Bg b l H') : St Hi F B H' := by
  refine ⟨fun A m => (s.ch A m).trans c, fun p m => ?_, fun b l e => ?_⟩
  · by_cases po : p ∈ ob B
    · match B, s, c, k, po with
      | some (b, l), s, c, k, po =>
        have e : p = b := by simpa [ob] using po
        obtain ⟨n0, n1, n2, ns, hb, hl⟩ := k b l rfl
        rw [e, hb]
        exact fun z => nomatch z
      | none, s, c, k, po => exact nomatch po
    · cases q : H p with
      | none => exact absurd q (s.tr p m)
      | some o =>
        rw [c p o po q]
        exact fun z => nomatch z
  · obtain ⟨b1, l1, n, _⟩ := s.bag b l e
    exact ⟨b1, l1, n, k b l e⟩
theorem St.anch (s : St Hi F B H) : St [H] F B H := ⟨fun A m => by
  have e : A = H := by simpa using m
  rw [e]
  exact Gr.refl _ _, s.tr, s.bag⟩
theorem St.push (s : St Hi F B H) : St (H :: Hi) F B H := ⟨fun A m => by
  rcases List.mem_cons.mp m with e | m
  · rw [e]
    exact Gr.refl _ _
  · exact s.ch A m, s.tr, s.bag⟩
theorem St.sub {Hj : List Hp} (h : ∀ A ∈ Hi, A ∈ Hj) (s : St Hj F B H) : St Hi F B H := ⟨fun A m => s.ch A (h A m), s.tr, s.bag⟩
theorem Bg.gr {b l : Addr} (h : Bg b l H) (g : Gr [] H H') : Bg b l H' := by
  obtain ⟨n0, n1, n2, ns, hb, hl, hz⟩ := h
  exact ⟨n0, n1, n2, ns, g _ _ (fun z => nomatch z) hb, g _ _ (fun z => nomatch z) hl, hz⟩
theorem St.same (s : St Hi F B H) (g : Gr [] H H') : St Hi F B H' := s.to (g.wide fun _ z => nomatch z) fun b l e => (s.bag b l e).2.2.2.gr g
theorem ch_of {H H' : Hp} (g : Gr [] H H') : Ch B H H' := g.wide fun _ z => nomatch z
theorem St.nF (s : St Hi F B H) {p : Addr} (h : H p = none) : p ∉ F := fun m => s.tr p m h
end
/-- what an expression gives, as data -/
def Ev (Hi : List Hp) (F : List Addr) (B : Bag) (ab : List Ab) (te : TE) (φ : PyData → Prop) : Prop :=
  ∀ (σ : L2.St) (H : Hp) (Q : VK), St Hi F B H → Sl F B H σ ab →
    (∀ v d H', Ch B H H' → St Hi F B H' → Da F H' v d → φ d → Q v H') → te σ H Q
def Evs (Hi : List Hp) (F : List Addr) (B : Bag) (ab : List Ab) (ta : TA) (φ : List PyData → Prop) : Prop :=
  ∀ (σ : L2.St) (H : Hp) (Q : List V → Hp → Prop), St Hi F B H → Sl F B H σ ab →
    (∀ vs ds H', Ch B H H' → St Hi F B H' → Das F H' vs ds → φ ds → Q vs H') → ta σ H Q
def EvT (Hi : List Hp) (F : List Addr) (B : Bag) (ab : List Ab) (tt : TT) (φ : Bool → Prop) : Prop :=
  ∀ (σ : L2.St) (H : Hp) (Q : Bool → Hp → Prop), St Hi F B H → Sl F B H σ ab →
    (∀ c H', Ch B H H' → St Hi F B H' → φ c → Q c H') → tt σ H Q
abbrev Ek (Hi : List Hp) (F : List Addr) (B : Bag) (ab : List Ab) (te : TE) (d : PyData) : Prop := Ev Hi F B ab te (· = d)
abbrev Eks (Hi : List Hp) (F : List Addr) (B : Bag) (ab : List Ab) (ta : TA) (ds : List PyData) : Prop := Evs Hi F B ab ta (· = ds)
abbrev EkT (Hi : List Hp) (F : List Addr) (B : Bag) (ab : List Ab) (tt : TT) (c : Bool) : Prop := EvT Hi F B ab tt (· = c)
section
variable {Hi : List Hp} {F : List Addr} {B : Bag} {ab : List Ab} {ta tb te : TE} {tas : TA} {φ ψ : PyData → Prop} {d e : PyData} {ds : List PyData} {t u : TT}
theorem Ev.imp (h : Ev Hi F B ab te φ) (i : ∀ d, φ d → ψ d) : Ev Hi F B ab te ψ := fun σ H Q s l q => h σ H Q s l fun v d H' c s' a p => q v d H' c s' a (i d p)
theorem Ek.is (h : Ek Hi F B ab te d) (q : d = e) : Ek Hi F B ab te e := q ▸ h
theorem EvT.imp {φ ψ : Bool → Prop} (h : EvT Hi F B ab t φ) (i : ∀ d, φ d → ψ d) : EvT Hi F B ab t ψ := fun σ H Q s l q => h σ H Q s l fun c H' k s' p => q c H' k s' (i c p)
theorem ev_var {i : Nat} (h : ab[i]? = some (.dat d)) : Ek Hi F B ab (tVar i) d := fun σ H Q s l q => by
  obtain ⟨v, e, k⟩ := l.dat h
  exact ⟨v, e, q v d H (Gr.refl _ H) s k rfl⟩
theorem ev_int {i : Int} : Ek Hi F B ab (tC (.int i)) (.int i) := fun σ H Q s l q => q _ _ H (Gr.refl _ H) s (.int i) rfl
theorem ev_str {x : Str} : Ek Hi F B ab (tC (.str x)) (.str x) := fun σ H Q s l q => q _ _ H (Gr.refl _ H) s (.str x) rfl
theorem ev_bl {b : Bool} : Ek Hi F B ab (tC (.bl b)) (.bool b) := fun σ H Q s l q => q _ _ H (Gr.refl _ H) s (.bl b) rfl
theorem ev_non : Ek Hi F B ab (tC .non) .none := fun σ H Q s l q => q _ _ H (Gr.refl _ H) s .non rfl
theorem evs_nil : Eks Hi F B ab tNil [] := fun σ H Q s l q => q _ _ H (Gr.refl _ H) s .nil rfl
theorem evs_cons {χ : List PyData → Prop} (h : Ev Hi F B ab te φ) (k : Evs Hi F B ab tas χ) : Evs Hi F B ab (tCons te tas) (fun ds => ∃ d r, ds = d :: r ∧ φ d ∧ χ r) := fun σ H Q s l q =>
  h σ H _ s l fun v d H1 c1 s1 a1 p1 => k σ H1 _ s1 (l.gr (Ch.wide c1 s)) fun vs r H2 c2 s2 a2 p2 => q _ (d :: r) H2 (c1.trans c2) s2 (.cons (a1.gr (Ch.wide c2 s1)) a2) ⟨d, r, rfl, p1, p2⟩
theorem eks_cons (h : Ek Hi F B ab te d) (k : Eks Hi F B ab tas ds) : Eks Hi F B ab (tCons te tas) (d :: ds) := fun σ H Q s l q =>
  evs_cons h k σ H Q s l fun vs r H' c s' a ⟨x, y, e1, e2, e3⟩ => q vs r H' c s' a (by rw [e1, e2, e3])
/-- (e, ..): a new tuple, its object known -/
def tTupX (t : TA) : TE := fun σ H Q => t σ H fun xs H1 => xs.length ≤ sizeLine ∧ ∀ (p : Addr) (o : Obj), H1 p = none → o.dict = none → Q (.ref p) (upd H1 p (.frz o (.tup xs)))
theorem pe_tupX {X : Cx} {es : List Expr} {t : TA} {pos : Pos} {x1} (h : PA X es t) : PE X (.Tuple es x1 pos) (tTupX t) := by
  refine ⟨fun pins s σ H Q I hq => wpAny_Tuple_spliced (thn (h.run pos pins s σ H _ I hq) fun us s1 hh => ?_)⟩
  obtain ⟨xs, H1, I1, r, z, q⟩ := hh
  refine ⟨by rw [← r.length]; exact z, .ref s1.heap.objs.size, _, I1.laid (t' := s1.toks) (o := .frz { cls := .type "tuple", data := .seq us.toArray } (.tup xs)) (fun b u e => Heap.get?_push_of_some _ e) (Nat.le_refl _) ?_, rfl,
    q _ _ (I1.hok.fresh (Nat.le_refl _)) rfl⟩
  exact ⟨Heap.get?_push_size _ rfl, z, us, r, ⟨_, Heap.get?_push_size _ rfl, rfl, _, rfl⟩⟩
theorem ev_tup {χ : List PyData → Prop} (h : Evs Hi F B ab tas χ) (z : ∀ r, χ r → r.length ≤ 100000) : Ev Hi F B ab (tTupX tas) (fun d => ∃ r, d = .tuple r ∧ χ r) := fun σ H Q s l q =>
  h σ H _ s l fun vs r H1 c1 s1 a1 p1 => ⟨by rw [a1.length]; exact Nat.le_trans (z r p1) (by decide), fun p o hp ho => by
    have g : Gr [] H1 (upd H1 p (.frz o (.tup vs))) := Gr.new hp
    exact q _ (.tuple r) _ (c1.trans (ch_of g)) (s1.same g) (.tup (s1.nF hp) ⟨o, ho, upd_same⟩ (a1.gr (Gr.new hp))) ⟨r, rfl, p1⟩⟩
theorem ev_lst {χ : List PyData → Prop} (h : Evs Hi F B ab tas χ) (z : ∀ r, χ r → r.length ≤ 100000) : Ev Hi F B ab (tLst tas) (fun d => ∃ r, d = .list r ∧ χ r) := fun σ H Q s l q =>
  h σ H _ s l fun vs r H1 c1 s1 a1 p1 => ⟨by rw [a1.length]; exact Nat.le_trans (z r p1) (by decide), fun p hp => by
    have g : Gr [] H1 (upd H1 p (.lst vs)) := Gr.new hp
    exact q _ (.list r) _ (c1.trans (ch_of g)) (s1.same g) (.lst (s1.nF hp) upd_same (a1.gr (Gr.new hp))) ⟨r, rfl, p1⟩⟩
theorem ek_tup (h : Eks Hi F B ab tas ds) (z : ds.length ≤ 100000 := by first | decide | simp) : Ek Hi F B ab (tTupX tas) (.tuple ds) := (ev_tup h fun r q => q ▸ z).imp fun d ⟨r, e, p⟩ => by rw [e, p]
theorem ek_lst (h : Eks Hi F B ab tas ds) (z : ds.length ≤ 100000 := by first | decide | simp) : Ek Hi F B ab (tLst tas) (.list ds) := (ev_lst h fun r q => q ▸ z).imp fun d ⟨r, e, p⟩ => by rw [e, p]
/-! operators -/
/-- a two-place operation on data: from d and e it makes what φ says, changing nothing -/
def OpD (r : R2) (d e : PyData) (φ : PyData → Prop) : Prop := ∀ (F : List Addr) (H : Hp) (x y : V) (Q : VK), (∀ p ∈ F, H p ≠ none) → Da F H x d → Da F H y e →
  (∀ v z H', Gr [] H H' → Da F H' v z → φ z → Q v H') → r x y H Q
theorem ev_op {r : R2} {χ : PyData → Prop} (h1 : Ev Hi F B ab ta φ) (h2 : Ev Hi F B ab tb ψ) (ho : ∀ d e, φ d → ψ e → OpD r d e χ) : Ev Hi F B ab (tOp r ta tb) χ := fun σ H Q s l q =>
  h1 σ H _ s l fun x d H1 c1 s1 a1 p1 => h2 σ H1 _ s1 (l.gr (Ch.wide c1 s)) fun y e H2 c2 s2 a2 p2 =>
    ho d e p1 p2 F H2 x y Q s2.tr (a1.gr (Ch.wide c2 s1)) a2 fun v z H3 g a3 p3 => q v z H3 ((c1.trans c2).trans (ch_of g)) (s2.same g) a3 p3
theorem ek_op {r : R2} {z : PyData} (h1 : Ek Hi F B ab ta d) (h2 : Ek Hi F B ab tb e) (ho : OpD r d e (· = z)) : Ek Hi F B ab (tOp r ta tb) z := ev_op h1 h2 fun d' e' q1 q2 => q1 ▸ q2 ▸ ho
theorem op_scal {r : R2} {z : PyData} (h : ∀ (F : List Addr) (H : Hp) (x y v : V) (Q : VK), Da F H x d → Da F H y e → (∀ w, Da F H w z → Q w H) → r x y H Q) : OpD r d e (· = z) := fun F H x y Q _ a1 a2 q =>
  h F H x y .non Q a1 a2 fun w k => q w z H (Gr.refl _ H) k rfl
theorem od_I0 {g : Int → Int → Int} {i j : Int} : OpD (rI0 fun i j => .int (g i j)) (.int i) (.int j) (· = .int (g i j)) := fun F H x y Q _ a1 a2 q => by
  cases a1
  cases a2
  exact ⟨i, j, rfl, rfl, q _ _ H (Gr.refl _ H) (.int _) rfl⟩
theorem od_B0 {g : Int → Int → Bool} {i j : Int} : OpD (rI0 fun i j => .bl (g i j)) (.int i) (.int j) (· = .bool (g i j)) := fun F H x y Q _ a1 a2 q => by
  cases a1
  cases a2
  exact ⟨i, j, rfl, rfl, q _ _ H (Gr.refl _ H) (.bl _) rfl⟩
theorem od_I {C : Int → Int → Prop} {g : Int → Int → Int} {i j : Int} (c : C i j) : OpD (rI C fun i j => .int (g i j)) (.int i) (.int j) (· = .int (g i j)) := fun F H x y Q _ a1 a2 q => by
  cases a1
  cases a2
  exact ⟨i, j, rfl, rfl, c, q _ _ H (Gr.refl _ H) (.int _) rfl⟩
/-! calls -/
/-- a call on data values (built-ins) -/
def CaD (r : List V → Hp → VK → Prop) (ds : List PyData) (φ : PyData → Prop) : Prop := ∀ (F : List Addr) (H : Hp) (vs : List V) (Q : VK), (∀ p ∈ F, H p ≠ none) → Das F H vs ds →
  (∀ v z H', Gr [] H H' → Da F H' v z → φ z → Q v H') → r vs H Q
theorem ev_cb {r : List V → Hp → VK → Prop} {χ : List PyData → Prop} (h : Evs Hi F B ab tas χ) (hr : ∀ ds, χ ds → CaD r ds φ) : Ev Hi F B ab (tCB r tas) φ := fun σ H Q s l q =>
  h σ H _ s l fun vs ds H1 c1 s1 a1 p1 => hr ds p1 F H1 vs Q s1.tr a1 fun v z H2 g a2 p2 => q v z H2 (c1.trans (ch_of g)) (s1.same g) a2 p2
/-- a pure def's promise, over data -/
def SpP (pre : List PyData → Prop) (post : List PyData → PyData → Prop) : Sp := fun vs H Q _ => ∃ (F : List Addr) (ds : List PyData), (∀ p ∈ F, H p ≠ none) ∧ Das F H vs ds ∧ pre ds ∧
  ∀ v d H', Gr [] H H' → Da F H' v d → post ds d → Q v H'
theorem ev_callP {pre : List PyData → Prop} {post : List PyData → PyData → Prop} {χ : List PyData → Prop} {E : XK} (h : Evs Hi F B ab tas χ) (hp : ∀ ds, χ ds → pre ds) (hq : ∀ ds d, χ ds → post ds d → φ d) :
    Ev Hi F B ab (tCall (SpP pre post) [] E tas) φ := fun σ H Q s l q =>
  h σ H _ s l fun vs ds H1 c1 s1 a1 p1 => by
    rw [List.append_nil]
    exact ⟨F, ds, s1.tr, a1, hp ds p1, fun v d H2 g a2 p2 => q v d H2 (c1.trans (ch_of g)) (s1.same g) a2 (hq ds d p1 p2)⟩
/-- a drawing def's promise: the bag first, then data -/
def SpB (pre : List PyData → Prop) (post : List PyData → PyData → Prop) : Sp := fun vs H Q _ => ∃ (F : List Addr) (b l : Addr) (ws : List V) (ds : List PyData), vs = .ref b :: ws ∧
  St [H] F (some (b, l)) H ∧ Das F H ws ds ∧ pre ds ∧ ∀ v d H', St [H] F (some (b, l)) H' → Da F H' v d → post ds d → Q v H'
theorem ev_callB {i : Nat} {pre : List PyData → Prop} {post : List PyData → PyData → Prop} {χ : List PyData → Prop} {E : XK} (hb : ab[i]? = some .bag) (h : Evs Hi F B ab tas χ) (hp : ∀ ds, χ ds → pre ds) (hq : ∀ ds d, χ ds → post ds d → φ d) :
    Ev Hi F B ab (tCall (SpB pre post) [] E (tCons (tVar i) tas)) φ := fun σ H Q s l q => by
  obtain ⟨b, c, eb, es⟩ := l.bag hb
  subst eb
  refine ⟨.ref b, es, h σ H _ s l fun vs ds H1 c1 s1 a1 p1 => ?_⟩
  show SpB pre post ((V.ref b :: vs) ++ []) H1 Q E
  rw [List.append_nil]
  refine ⟨F, b, c, vs, ds, rfl, s1.anch, a1, hp ds p1, fun v d H2 s2 a2 p2 => ?_⟩
  have c2 := s2.ch H1 List.mem_cons_self
  exact q v d H2 (c1.trans c2) (s1.to c2 fun b' l' e => (s2.bag b' l' e).2.2.2) a2 (hq ds d p1 p2)
/-! tests -/
theorem et_test {φ : Bool → Prop} (h : Ev Hi F B ab te (fun d => ∃ c, d = .bool c ∧ φ c)) : EvT Hi F B ab (tTest te) φ := fun σ H Q s l q => h σ H _ s l fun v d H1 c1 s1 a1 ⟨c, e, p⟩ => by
  subst e
  cases a1
  exact ⟨c, rfl, q c H1 c1 s1 p⟩
theorem et_B {φ : Bool → Prop} (h : Ev Hi F B ab te (fun d => ∃ c, d = .bool c ∧ φ c)) : EvT Hi F B ab (tB te) φ := et_test h
theorem etk_test {c : Bool} (h : Ek Hi F B ab te (.bool c)) : EkT Hi F B ab (tTest te) c := et_test (h.imp fun d e => ⟨c, e, rfl⟩)
theorem etk_B {c : Bool} (h : Ek Hi F B ab te (.bool c)) : EkT Hi F B ab (tB te) c := et_test (h.imp fun d e => ⟨c, e, rfl⟩)
theorem etk_not {c : Bool} (h : EkT Hi F B ab t c) : EkT Hi F B ab (tNot t) (!c) := fun σ H Q s l q => h σ H _ s l fun k H1 c1 s1 p => q _ H1 c1 s1 (by rw [p])
theorem etk_and {a b : Bool} (h1 : EkT Hi F B ab t a) (h2 : a = true → EkT Hi F B ab u b) : EkT Hi F B ab (tAnd t u) (a && b) := fun σ H Q s l q => h1 σ H _ s l fun k H1 c1 s1 p => by
  subst p
  cases k with
  | true => exact iteT (h2 rfl σ H1 _ s1 (l.gr (Ch.wide c1 s)) fun k2 H2 c2 s2 p2 => q k2 H2 (c1.trans c2) s2 (by rw [p2]; rfl))
  | false => exact iteF (q _ H1 c1 s1 rfl)
theorem etk_or {a b : Bool} (h1 : EkT Hi F B ab t a) (h2 : a = false → EkT Hi F B ab u b) : EkT Hi F B ab (tOr t u) (a || b) := fun σ H Q s l q => h1 σ H _ s l fun k H1 c1 s1 p => by
  subst p
  cases k with
  | true => exact iteT (q _ H1 c1 s1 rfl)
  | false => exact iteF (h2 rfl σ H1 _ s1 (l.gr (Ch.wide c1 s)) fun k2 H2 c2 s2 p2 => q k2 H2 (c1.trans c2) s2 (by rw [p2]; rfl))
theorem ek_andV {a b : Bool} (h1 : Ek Hi F B ab ta (.bool a)) (h2 : a = true → Ek Hi F B ab tb (.bool b)) : Ek Hi F B ab (tAndV ta tb) (.bool (a && b)) := fun σ H Q s l q => h1 σ H _ s l fun v d H1 c1 s1 a1 p => by
  subst p
  cases a1
  refine ⟨a, rfl, ?_⟩
  cases a with
  | true => exact iteT (h2 rfl σ H1 _ s1 (l.gr (Ch.wide c1 s)) fun k2 d2 H2 c2 s2 a2 p2 => q k2 d2 H2 (c1.trans c2) s2 a2 p2)
  | false => exact iteF (q _ _ H1 c1 s1 (.bl false) rfl)
theorem ek_orV {a b : Bool} (h1 : Ek Hi F B ab ta (.bool a)) (h2 : a = false → Ek Hi F B ab tb (.bool b)) : Ek Hi F B ab (tOrV ta tb) (.bool (a || b)) := fun σ H Q s l q => h1 σ H _ s l fun v d H1 c1 s1 a1 p => by
  subst p
  cases a1
  refine ⟨a, rfl, ?_⟩
  cases a with
  | true => exact iteT (q _ _ H1 c1 s1 (.bl true) rfl)
  | false => exact iteF (h2 rfl σ H1 _ s1 (l.gr (Ch.wide c1 s)) fun k2 d2 H2 c2 s2 a2 p2 => q k2 d2 H2 (c1.trans c2) s2 a2 p2)
theorem ek_notV {a : Bool} (h1 : Ek Hi F B ab ta (.bool a)) : Ek Hi F B ab (tNotV ta) (.bool (!a)) := fun σ H Q s l q => h1 σ H _ s l fun v d H1 c1 s1 a1 p => by
  subst p
  cases a1
  exact ⟨a, rfl, q _ _ H1 c1 s1 (.bl _) rfl⟩
theorem ev_if {χ : Bool → Prop} (h : EvT Hi F B ab t χ) (h1 : χ true → Ev Hi F B ab ta φ) (h2 : χ false → Ev Hi F B ab tb φ) : Ev Hi F B ab (tIf t ta tb) φ := fun σ H Q s l q => h σ H _ s l fun k H1 c1 s1 p => by
  cases k with
  | true => exact iteT (h1 p σ H1 _ s1 (l.gr (Ch.wide c1 s)) fun k2 d2 H2 c2 s2 a2 p2 => q k2 d2 H2 (c1.trans c2) s2 a2 p2)
  | false => exact iteF (h2 p σ H1 _ s1 (l.gr (Ch.wide c1 s)) fun k2 d2 H2 c2 s2 a2 p2 => q k2 d2 H2 (c1.trans c2) s2 a2 p2)
/-! blocks -/
def OkK (Hi : List Hp) (F : List Addr) (B : Bag) (K : L2.St → Hp → Prop) (ab : List Ab) : Prop := ∀ (σ : L2.St) (H : Hp), St Hi F B H → Sl F B H σ ab → K σ H
abbrev Ok (Hi : List Hp) (F : List Addr) (B : Bag) (ts : TS) (D : Ends) (ab : List Ab) : Prop := OkK Hi F B (ts D) ab
variable {ts us : TS} {D : Ends}
theorem ok_seq (h : Ok Hi F B ts { D with nx := us D } ab) : Ok Hi F B (tSeq ts us) D ab := h
theorem ok_next (h : OkK Hi F B D.nx ab) : Ok Hi F B tNext D ab := h
theorem ok_asg {i : Nat} (h : Ev Hi F B ab te φ) (k : ∀ d, φ d → OkK Hi F B D.nx (ab.set i (.dat d))) : Ok Hi F B (tAsg te (gName i)) D ab := fun σ H s l =>
  h σ H _ s l fun v d H1 c1 s1 a1 p => k d p _ H1 s1 ((l.gr (Ch.wide c1 s)).set ⟨v, rfl, a1⟩)
theorem ok_asgK {i : Nat} (h : Ek Hi F B ab te d) (k : OkK Hi F B D.nx (ab.set i (.dat d))) : Ok Hi F B (tAsg te (gName i)) D ab := ok_asg h fun d' e => e ▸ k
theorem ok_ret (h : Ev Hi F B ab te φ) (k : ∀ v d H, St Hi F B H → Da F H v d → φ d → D.rt v H) : Ok Hi F B (tRet te) D ab := fun σ H s l =>
  h σ H _ s l fun v d H1 c1 s1 a1 p => k v d H1 s1 a1 p
theorem ok_if {χ : Bool → Prop} (h : EvT Hi F B ab t χ) (h1 : χ true → Ok Hi F B ts D ab) (h2 : χ false → Ok Hi F B us D ab) : Ok Hi F B (tIfS t ts us) D ab := fun σ H s l =>
  h σ H _ s l fun c H1 c1 s1 p => by
    cases c with
    | true => exact iteT (h1 p σ H1 s1 (l.gr (Ch.wide c1 s)))
    | false => exact iteF (h2 p σ H1 s1 (l.gr (Ch.wide c1 s)))
theorem ok_ifK {c : Bool} (h : EkT Hi F B ab t c) (h1 : c = true → Ok Hi F B ts D ab) (h2 : c = false → Ok Hi F B us D ab) : Ok Hi F B (tIfS t ts us) D ab := ok_if h (fun e => h1 e.symm) fun e => h2 e.symm
theorem ok_drop (h : Ev Hi F B ab te φ) (k : OkK Hi F B D.nx ab) : Ok Hi F B (tDrop te) D ab := fun σ H s l =>
  h σ H _ s l fun v d H1 c1 s1 a1 p => k _ H1 s1 (l.gr (Ch.wide c1 s))
/-- x, y = e, f -/
theorem ok_par {i j : Nat} {χ : List PyData → Prop} (h : Evs Hi F B ab tas χ) (two : ∀ ds, χ ds → ds.length = 2) (k : ∀ d e, χ [d, e] → OkK Hi F B D.nx ((ab.set i (.dat d)).set j (.dat e))) : Ok Hi F B (tPar i j tas) D ab := fun σ H s l =>
  h σ H _ s l fun vs ds H1 c1 s1 a1 p => by
    have z := two ds p
    cases a1 with
    | nil => exact nomatch z
    | cons x a2 =>
      cases a2 with
      | nil => exact nomatch z
      | cons y a3 =>
        cases a3 with
        | nil => exact ⟨_, _, rfl, k _ _ p _ H1 s1 (Sl.set (a := .dat _) (Sl.set (a := .dat _) (l.gr (Ch.wide c1 s)) ⟨_, rfl, x⟩) ⟨_, rfl, y⟩)⟩
        | cons _ _ => exact nomatch z
end
end Gd

/-! defs by their names; operators of several kinds at once; what they do to data -/
namespace Gd
open PySem PySem.Spec PyProof.Rows L2
/-- a def of the module, called by its name, keeps a promise -/
def CalG (P : Program) (w : World) (K : PySem.W.Frag) (mg : Str → Option Value) (base : Heap) (k : Nat) (x : Str) (sp : Sp) : Prop :=
  ∃ (f : Addr) (fd : FuncData) (ps : List Str), mg x = some (.ref f) ∧ PySem.W.keepIn K (.ref f) = true ∧ Binds K fd ps [] ∧ FnG P w K mg base CX0 k f fd ps sp
/-- how a def of the top lies in the written part -/
def DefAt (K : PySem.W.Frag) (x : Str) (st : Stmt) : Prop :=
  ∃ (f : Addr) (oc : Value) (od an : Option Addr) (sl : Array (Option Value)) (kV dc pm cd ct : Value),
    PySem.W.nsIn K mainGlobals x = some (some (.ref f)) ∧
    K.lookup f = some ⟨oc, od, .func (PySem.W.fnOf x x (defArgs st) (defBody st) (defScope st) .none kV dc pm an cd ct), sl⟩ ∧
    PySem.W.codeIn K cd x = true ∧ PySem.W.keepIn K (.ref f) = true
theorem calG_of {P : Program} {w : World} {K : PySem.W.Frag} {mg : Str → Option Value} {base : Heap} {x : Str} {st : Stmt} {N ps : List Str} {k : Nat} {sp : Sp}
    (X : K.In base) (G : base.Ns mainGlobals mg) (D : DefAt K x st) (S : FnScope N ps (defScope st))
    (hb : ∀ (kV doc pm : Value) (an : Option Addr) (cdv ct : Value) (us : List Value), us.length = ps.length →
      bindArgs (PySem.W.fnOf x x (defArgs st) (defBody st) (defScope st) .none kV doc pm an cdv ct) ⟨us, []⟩ = pure (ps.zip us))
    (len : ∀ vs H Q E, sp vs H Q E → vs.length = ps.length)
    (hbody : ∀ (f : Addr) (cdv : Value) (A : Around) (outer : List Env) (s : Shared) (H : Hp) (vs : List V) (Q : VK) (E : XK),
      Ng A → Room k (A.deeper (envOfC x (defScope st) s.heap.objs.size f cdv)) → sp vs H Q E →
      ∃ t, PSs (cxOf CX0 P w K mg base N x (defScope st) f cdv A outer s H E).nox (defBody st) t ∧
        t { nx := fun _ H' => Q .non H', rt := Q } (L2.start N vs) H) : CalG P w K mg base (k + 1) x sp := by
  obtain ⟨f, oc, od, an, sl, kV, dc, pm, cd, ct, h1, h2, h3, h4⟩ := D
  have FF : Fun K x x st f _ := fun_mk h2 h3 h4
  exact ⟨f, _, ps, PySem.W.mg_of X G h1, h4, FF.binds hb, okG FF S len fun cdv A outer s H vs Q E => hbody f cdv A outer s H vs Q E⟩
theorem CalG.mono {P : Program} {w : World} {K : PySem.W.Frag} {mg : Str → Option Value} {base : Heap} {j k : Nat} {x : Str} {sp : Sp} (c : CalG P w K mg base j x sp) (h : j ≤ k) : CalG P w K mg base k x sp := by
  obtain ⟨f, fd, ps, h1, h2, h3, h4⟩ := c
  exact ⟨f, fd, ps, h1, h2, h3, h4.mono h⟩
section
variable {X : Cx} {k j : Nat} {sp : Sp} {x : Str} {p pos : Pos} {e : Expr} {es : List Expr} {t : TA}
/-- f(e, ..) -/
theorem pe_cg (c : CalG X.prog X.w X.K X.mg X.base k x sp) (ng : Ng X.A) (hr : Room j X.A) (hk : k ≤ j) (ha : PA X (e :: es) t) (hg : Gl X x := by rfl)
    (hdb : (x == ("__debug__" : Str)) = false := by decide)
    (he : starEach (e :: es) X.env = (false, eval e X.env) :: starEach es X.env := by rfl)
    (hpl : (backTo pos (starEach es X.env)).any (·.1) = false := by rfl) :
    PE X (.Call (.Name x p) (e :: es) [] pos) (tCall sp [] E0 t) := by
  obtain ⟨f, fd, ps, h1, h2, h3, h4⟩ := c
  exact pe_callG h4 ng (hr.mono hk) hg h1 h2 h3 .nil pass0 ha hdb he hpl
end
/-! operators of several kinds -/
section
variable {X : Cx}
/-- t + u of tuples: the new one's object known -/
def rCatX (K : PySem.W.Frag) : R2 := fun x y H Q => ∃ a b xs ys, x = .ref a ∧ y = .ref b ∧ SqT K H a xs ∧ SqT K H b ys ∧ xs.length + ys.length ≤ sizeLine ∧
  (xs = [] → Q (.ref b) H) ∧ (xs ≠ [] → ys = [] → Q (.ref a) H) ∧ (xs ≠ [] → ys ≠ [] → ∀ (p : Addr) (o : Obj), H p = none → o.dict = none → Q (.ref p) (upd H p (.frz o (.tup (xs ++ ys)))))
theorem op_catX : OpR X (binaryOp .Add) (rCatX X.K) := by
  intro pins s σ H x y v u Q I rx ry h
  obtain ⟨a, b, xs, ys, rfl, rfl, ha, hb, hz, q0, q1, q2⟩ := h
  obtain ⟨vs, r1, p1, _⟩ := I.tuple ha
  obtain ⟨ws, r2, p2, _⟩ := I.tuple hb
  obtain rfl : v = Value.ref a := rx
  obtain rfl : u = Value.ref b := ry
  by_cases hx : xs = []
  · subst hx
    cases r1
    exact cat_tup0 p1 p2 ⟨.ref b, H, I, rfl, q0 rfl⟩
  · refine HT.cat_tup p1 p2 (fun z => hx (r1.nil_iff.mp z)) (fun z => ⟨.ref a, H, I, rfl, q1 hx (r2.nil_iff.mp z)⟩) (fun z => ?_) (by rw [← r1.length, ← r2.length]; exact hz)
    refine ⟨.ref s.heap.objs.size, _, I.laid (t' := s.toks) (o := .frz { cls := .type "tuple", data := .seq (vs ++ ws).toArray } (.tup (xs ++ ys))) (fun c oc e => Heap.get?_push_of_some _ e) (Nat.le_refl _) ?_, rfl,
      q2 hx (fun e => z (r2.nil_iff.mpr e)) _ _ (I.hok.fresh (Nat.le_refl _)) rfl⟩
    have st := Heap.get?_push_size s.heap (o := { cls := .type "tuple", data := .seq (vs ++ ws).toArray }) rfl
    exact ⟨by first | exact st | simpa using st, by rw [List.length_append]; exact hz, vs ++ ws, r1.append r2, IsTup.new _ _⟩
/-- t[lo:hi] of tuples: the new one's object known -/
def rSlX (K : PySem.W.Frag) : V → Option Int → Option Int → Hp → VK → Prop := fun x lo hi H Q => ∃ a xs, x = .ref a ∧ SqT K H a xs ∧
  (HT.sIx xs.length 0 lo = 0 ∧ HT.sIx xs.length xs.length hi = xs.length → Q (.ref a) H) ∧
  (¬ (HT.sIx xs.length 0 lo = 0 ∧ HT.sIx xs.length xs.length hi = xs.length) → ∀ (p : Addr) (o : Obj), H p = none → o.dict = none → Q (.ref p) (upd H p (.frz o (.tup (cutV xs lo hi)))))
theorem sl_tupX : SlR X (rSlX X.K) := by
  intro pins s σ H x v vl vu lo hi sl Q I rx hs pl pu h
  obtain ⟨a, xs, rfl, hx, q1, q2⟩ := h
  obtain ⟨its, r, ht, hz⟩ := I.tuple hx
  have hlen : its.toArray.size = xs.length := by rw [List.size_toArray]; exact r.length.symm
  obtain rfl : v = Value.ref a := rx
  refine ⟨"tuple", _, PyProof.Rows.slot_tuple_getitem.lookup, ht.typeIs, ?_⟩
  by_cases hw : HT.sIx xs.length 0 lo = 0 ∧ HT.sIx xs.length xs.length hi = xs.length
  · exact getItem_tuple_whole ht hs pl pu (by rw [hlen]; exact hw) ⟨.ref a, H, I, rfl, q1 hw⟩
  · refine HT.getItem_tuple_cut ht hs pl pu (by rw [hlen]; exact hw) ?_ (by rw [hlen]; exact hz)
    rw [hlen]
    refine ⟨.ref s.heap.objs.size, _, I.laid (t' := s.toks) (o := .frz _ (.tup (cutV xs lo hi))) (fun c oc e => Heap.get?_push_of_some _ e) (Nat.le_refl _) ⟨Heap.get?_push_size _ rfl, ?_⟩, rfl,
      q2 hw _ _ (I.hok.fresh (Nat.le_refl _)) rfl⟩
    exact ⟨Nat.le_trans (cutV_length xs lo hi) hz, _, (r.drop (HT.sIx xs.length 0 lo)).take (HT.sIx xs.length xs.length hi - HT.sIx xs.length 0 lo), IsTup.new _ _⟩
/-- two lists of unlike lengths -/
def rEqLen : R2 := fun x y H Q => ∃ a b xs ys, x = .ref a ∧ y = .ref b ∧ H a = some (.lst xs) ∧ H b = some (.lst ys) ∧ xs.length ≠ ys.length ∧ Q (.bl false) H
def rNeLen : R2 := fun x y H Q => ∃ a b xs ys, x = .ref a ∧ y = .ref b ∧ H a = some (.lst xs) ∧ H b = some (.lst ys) ∧ xs.length ≠ ys.length ∧ Q (.bl true) H
theorem op_eqLen (hu : X.A.units + 64 < cLine) : OpR X (compareOp .Eq) rEqLen := by
  intro pins s σ H x y v u Q I rx ry h
  obtain ⟨a, b, xs, ys, rfl, rfl, ha, hb, hn, q⟩ := h
  obtain rfl : v = Value.ref a := rx
  obtain rfl : u = Value.ref b := ry
  obtain ⟨us, r1, p1, _⟩ := I.list (.inl (.inl ha))
  obtain ⟨ws, r2, p2, _⟩ := I.list (.inl (.inl hb))
  refine SeqAt.eq_list_lengthsAt p1.isList p2.isList ?_ (by omega) ⟨.bl false, H, I, rfl, q⟩
  simpa [← r1.length, ← r2.length] using hn
theorem op_neLen (hu : X.A.units + 64 < cLine) : OpR X (compareOp .NotEq) rNeLen := by
  intro pins s σ H x y v u Q I rx ry h
  obtain ⟨a, b, xs, ys, rfl, rfl, ha, hb, hn, q⟩ := h
  obtain rfl : v = Value.ref a := rx
  obtain rfl : u = Value.ref b := ry
  obtain ⟨us, r1, p1, _⟩ := I.list (.inl (.inl ha))
  obtain ⟨ws, r2, p2, _⟩ := I.list (.inl (.inl hb))
  exact SeqAt.RcNeAt.lists_lengths p1.isList p2.isList (by simpa [← r1.length, ← r2.length] using hn) (by omega) X.prog X.w X.xe _ ⟨.bl true, H, I, rfl, q⟩
def rAddA (K : PySem.W.Frag) : R2 := fun x y H Q => (∃ i j, x = .int i ∧ y = .int j ∧ Q (.int (i + j)) H) ∨ (∃ i j, x = .str i ∧ y = .str j ∧ i.length + j.length ≤ sizeLine ∧ Q (.str (i ++ j)) H) ∨ rCat x y H Q ∨ rCatX K x y H Q
theorem op_addA : OpR X (binaryOp .Add) (rAddA X.K) := OpR.or op_add (OpR.or op_add_str (OpR.or op_cat op_catX))
def rEqA (K : PySem.W.Frag) : R2 := fun x y H Q => rEq x y H Q ∨ rEqD K x y H Q ∨ rEqLen x y H Q
theorem op_eqA (hu : X.A.units + 64 < cLine) : OpR X (compareOp .Eq) (rEqA X.K) := OpR.or op_eq (OpR.or (op_eqD hu) (op_eqLen hu))
def rNeA (K : PySem.W.Frag) : R2 := fun x y H Q => rNe x y H Q ∨ rNeD K x y H Q ∨ rNeLen x y H Q
theorem op_neA (hu : X.A.units + 64 < cLine) : OpR X (compareOp .NotEq) (rNeA X.K) := OpR.or op_ne (OpR.or (op_neD hu) (op_neLen hu))
def rMulI : R2 := rI L2.CMul fun i j => .int (i * j)
def rMulA : R2 := fun x y H Q => rMulI x y H Q ∨ rRep x y H Q
theorem op_mulA : OpR X (binaryOp .Mult) rMulA := OpR.or op_mul op_rep
def rIxA (K : PySem.W.Frag) : R2 := rIx K
def rSlAll (K : PySem.W.Frag) : V → Option Int → Option Int → Hp → VK → Prop := fun x lo hi H Q => rSlL K x lo hi H Q ∨ rSlS x lo hi H Q ∨ rSlX K x lo hi H Q
theorem sl_all : SlR X (rSlAll X.K) := SlR.or sl_list (SlR.or sl_str sl_tupX)
def rLenA (K : PySem.W.Frag) : List V → Hp → VK → Prop := fun xs H Q => (∃ p ys, xs = [.ref p] ∧ (SqL K H p ys ∨ SqT K H p ys) ∧ Q (.int ys.length) H) ∨ (∃ z, xs = [.str z] ∧ z.length ≤ sizeLine ∧ Q (.int z.length) H)
theorem call_lenA : CallR X (.builtin "len") (rLenA X.K) := CallR.or call_len_seq call_len_str
/-- o[i] of a list, read ahead of o[i] += .. -/
def rGetL : V → V → Hp → VK → Prop := fun o i H Q => ∃ (p : Addr) (xs : List V) (k : Nat) (v : V), o = .ref p ∧ i = .int (k : Int) ∧ H p = some (.lst xs) ∧ k < 1000000 ∧ xs[k]? = some v ∧ Q v H
theorem get_list : PGet X rGetL := by
  intro pins s σ H o i ov iv Q I r1 r2 h
  obtain ⟨p, xs, k, v, rfl, rfl, hp, hk, hv, q⟩ := h
  obtain rfl : ov = Value.ref p := r1
  obtain ⟨t, rfl⟩ := r2
  obtain ⟨its, r, pl, _⟩ := I.list (.inl (.inl hp))
  obtain ⟨u, eu, ru⟩ := r.get hv
  refine wpAny_getItem_list pl.isList (by omega) (by omega) (x := u) ?_ ⟨v, H, I, ru, q⟩
  simpa using eu
end
/-! what they do to data -/
section
variable {K : PySem.W.Frag} {d e : PyData}
theorem Da.dp {F : List Addr} {H : Hp} : ∀ {d : PyData} {v : V}, d.canLay0 = true → Da F H v d → Dp K H v d := by
  have main : ∀ n : Nat, (∀ (d : PyData) (v : V), sizeOf d ≤ n → d.canLay0 = true → Da F H v d → Dp K H v d) ∧ (∀ (ds : List PyData) (vs : List V), sizeOf ds ≤ n → PyData.canLayAll0 ds = true → Das F H vs ds → DpAll K H vs ds) := by
    intro n
    induction n with
    | zero =>
      refine ⟨fun d v h => ?_, fun ds vs h => ?_⟩
      · exfalso; cases d <;> simp at h <;> omega
      · exfalso; cases ds <;> simp at h <;> omega
    | succ n ih =>
      obtain ⟨i1, i2⟩ := ih
      refine ⟨fun d v h c a => ?_, fun ds vs h c a => ?_⟩
      · cases a with
        | non => exact .non
        | bl b => exact .bl b
        | int i => exact .int i
        | str x => exact .str x
        | lst _ h1 h2 => exact .lst (.inl (.inl h1)) (i2 _ _ (by simp at h; omega) (by simpa [PyData.canLay0] using c) h2)
        | tup _ h1 h2 => exact .tup h1.seq (i2 _ _ (by simp at h; omega) (by simpa [PyData.canLay0] using c) h2)
        | dct _ _ _ _ => simp [PyData.canLay0] at c
      · cases a with
        | nil => exact .nil
        | @cons _ _ d1 ds1 h1 h2 =>
          have c' : (PyData.canLay0 d1 && PyData.canLayAll0 ds1) = true := by simpa only [PyData.canLayAll0] using c
          have c2 := Bool.and_eq_true_iff.mp c'
          exact .cons (i1 _ _ (by simp at h; omega) c2.1 h1) (i2 _ _ (by simp at h; omega) c2.2 h2)
  intro d v c a
  exact (main (sizeOf d)).1 d v (Nat.le_refl _) c a
theorem Das.dp {F : List Addr} {H : Hp} : ∀ {ds : List PyData} {vs : List V}, PyData.canLayAll0 ds = true → Das F H vs ds → DpAll K H vs ds
  | [], _, _, .nil => .nil
  | d :: ds, _, c, .cons h1 h2 => by
    have c' := Bool.and_eq_true_iff.mp (show (d.canLay0 && PyData.canLayAll0 ds) = true by simpa only [PyData.canLayAll0] using c)
    exact .cons (h1.dp c'.1) (Das.dp c'.2 h2)
abbrev Shp (d : PyData) : Prop := SeqAt.shaped d = true
theorem od_eq (h1 : Shp d) (h2 : Shp e) : OpD (rEqD K) d e (· = .bool (PyData.eqv d e)) := fun F H x y Q _ a1 a2 q =>
  ⟨d, e, a1.dp (SeqAt.canLay_of_shaped h1), a2.dp (SeqAt.canLay_of_shaped h2), h1, h2, q _ _ H (Gr.refl _ H) (.bl _) rfl⟩
theorem od_ne (h1 : Shp d) (h2 : Shp e) : OpD (rNeD K) d e (· = .bool (!PyData.eqv d e)) := fun F H x y Q _ a1 a2 q =>
  ⟨d, e, a1.dp (SeqAt.canLay_of_shaped h1), a2.dp (SeqAt.canLay_of_shaped h2), h1, h2, q _ _ H (Gr.refl _ H) (.bl _) rfl⟩
theorem od_eqA (h1 : Shp d) (h2 : Shp e) : OpD (rEqA K) d e (· = .bool (PyData.eqv d e)) := fun F H x y Q t a1 a2 q => .inr (.inl (od_eq h1 h2 F H x y Q t a1 a2 q))
theorem od_neA (h1 : Shp d) (h2 : Shp e) : OpD (rNeA K) d e (· = .bool (!PyData.eqv d e)) := fun F H x y Q t a1 a2 q => .inr (.inl (od_ne h1 h2 F H x y Q t a1 a2 q))
theorem od_eqS {x y : Str} : OpD (rEqA K) (.str x) (.str y) (· = .bool (decide (x = y))) := fun F H u v Q t a1 a2 q => by
  cases a1
  cases a2
  refine .inl ⟨rfl, ?_⟩
  have e : decide (V.str x = V.str y) = decide (x = y) := by simp
  rw [e]
  exact q _ _ H (Gr.refl _ H) (.bl _) rfl
theorem od_neS {x y : Str} : OpD (rNeA K) (.str x) (.str y) (· = .bool (!decide (x = y))) := fun F H u v Q t a1 a2 q => by
  cases a1
  cases a2
  refine .inl ⟨rfl, ?_⟩
  have e : decide (V.str x = V.str y) = decide (x = y) := by simp
  rw [e]
  exact q _ _ H (Gr.refl _ H) (.bl _) rfl
theorem od_eqI {x y : Int} : OpD (rEqA K) (.int x) (.int y) (· = .bool (decide (x = y))) := fun F H u v Q t a1 a2 q => by
  cases a1
  cases a2
  refine .inl ⟨rfl, ?_⟩
  have e : decide (V.int x = V.int y) = decide (x = y) := by simp
  rw [e]
  exact q _ _ H (Gr.refl _ H) (.bl _) rfl
theorem od_neI {x y : Int} : OpD (rNeA K) (.int x) (.int y) (· = .bool (!decide (x = y))) := fun F H u v Q t a1 a2 q => by
  cases a1
  cases a2
  refine .inl ⟨rfl, ?_⟩
  have e : decide (V.int x = V.int y) = decide (x = y) := by simp
  rw [e]
  exact q _ _ H (Gr.refl _ H) (.bl _) rfl
theorem od_eqNil {xs : List PyData} : OpD (rEqA K) (.list xs) (.list []) (· = .bool (decide (xs = []))) := fun F H u v Q t a1 a2 q => by
  cases xs with
  | nil => exact .inr (.inl ⟨.list [], .list [], a1.dp rfl, a2.dp rfl, rfl, rfl, by simpa [PyData.eqv, PyData.eqvAll] using q _ _ H (Gr.refl _ H) (.bl _) rfl⟩)
  | cons x xs =>
    cases a1 with
    | @lst a us _ n1 h1 k1 =>
      cases a2 with
      | @lst b ws _ n2 h2 k2 =>
        cases k2
        refine .inr (.inr ⟨a, b, us, [], rfl, rfl, h1, h2, by rw [k1.length]; exact (fun z => nomatch z), ?_⟩)
        simpa using q _ _ H (Gr.refl _ H) (.bl _) rfl
theorem od_neNil {xs : List PyData} : OpD (rNeA K) (.list xs) (.list []) (· = .bool (!decide (xs = []))) := fun F H u v Q t a1 a2 q => by
  cases xs with
  | nil => exact .inr (.inl ⟨.list [], .list [], a1.dp rfl, a2.dp rfl, rfl, rfl, by simpa [PyData.eqv, PyData.eqvAll] using q _ _ H (Gr.refl _ H) (.bl _) rfl⟩)
  | cons x xs =>
    cases a1 with
    | @lst a us _ n1 h1 k1 =>
      cases a2 with
      | @lst b ws _ n2 h2 k2 =>
        cases k2
        refine .inr (.inr ⟨a, b, us, [], rfl, rfl, h1, h2, by rw [k1.length]; exact (fun z => nomatch z), ?_⟩)
        simpa using q _ _ H (Gr.refl _ H) (.bl _) rfl
theorem od_addI {i j : Int} : OpD (rAddA K) (.int i) (.int j) (· = .int (i + j)) := fun F H x y Q _ a1 a2 q => by
  cases a1
  cases a2
  exact .inl ⟨i, j, rfl, rfl, q _ _ H (Gr.refl _ H) (.int _) rfl⟩
theorem od_addS {i j : Str} (h : i.length + j.length ≤ 100000) : OpD (rAddA K) (.str i) (.str j) (· = .str (i ++ j)) := fun F H x y Q _ a1 a2 q => by
  cases a1
  cases a2
  exact .inr (.inl ⟨i, j, rfl, rfl, Nat.le_trans h (by decide), q _ _ H (Gr.refl _ H) (.str _) rfl⟩)
theorem od_addL {xs ys : List PyData} (h : xs.length + ys.length ≤ 100000) : OpD (rAddA K) (.list xs) (.list ys) (· = .list (xs ++ ys)) := fun F H x y Q tr a1 a2 q => by
  cases a1 with
  | @lst a vs _ n1 h1 k1 =>
    cases a2 with
    | @lst b ws _ n2 h2 k2 =>
      refine .inr (.inr (.inl ⟨_, _, _, _, rfl, rfl, h1, h2, by rw [k1.length, k2.length]; exact Nat.le_trans h (by decide), fun p hp => ?_⟩))
      have g : Gr F H (upd H p (.lst (vs ++ ws))) := Gr.new hp
      exact q _ (.list (xs ++ ys)) _ (Gr.new hp) (.lst (fun m => tr p m hp) upd_same ((k1.gr g).app (k2.gr g))) rfl
theorem od_addT {xs ys : List PyData} (h : xs.length + ys.length ≤ 100000) : OpD (rAddA K) (.tuple xs) (.tuple ys) (· = .tuple (xs ++ ys)) := fun F H x y Q tr a1 a2 q => by
  cases a1 with
  | @tup a vs _ n1 h1 k1 =>
    cases a2 with
    | @tup b ws _ n2 h2 k2 =>
      refine .inr (.inr (.inr ⟨a, b, vs, ws, rfl, rfl, h1.seq, h2.seq, by rw [k1.length, k2.length]; exact Nat.le_trans h (by decide), fun z => ?_, fun z1 z2 => ?_, fun z1 z2 p o hp ho => ?_⟩))
      · subst z
        cases k1
        exact q _ (.tuple ys) _ (Gr.refl _ H) (.tup n2 h2 k2) rfl
      · subst z2
        cases k2
        exact q _ (.tuple xs) _ (Gr.refl _ H) (.tup n1 h1 k1) (by rw [List.append_nil])
      · have g : Gr F H (upd H p (.frz o (.tup (vs ++ ws)))) := Gr.new hp
        exact q _ (.tuple (xs ++ ys)) _ (Gr.new hp) (.tup (fun m => tr p m hp) ⟨o, ho, upd_same⟩ ((k1.gr g).app (k2.gr g))) rfl
theorem od_mulI {i j : Int} (h : L2.CMul i j) : OpD rMulA (.int i) (.int j) (· = .int (i * j)) := fun F H x y Q _ a1 a2 q => by
  cases a1
  cases a2
  exact .inl ⟨i, j, rfl, rfl, h, q _ _ H (Gr.refl _ H) (.int _) rfl⟩
theorem flat_rep {α : Type} : ∀ (xs : List α) (n : Nat), (List.replicate n xs).flatten.length = n * xs.length := by
  intro xs n
  simp
theorem od_ixL {xs : List PyData} {i : Int} {z : PyData} (h : atI xs i = some z) : OpD (rIx K) (.list xs) (.int i) (· = z) := fun F H x y Q tr a1 a2 q => by
  cases a1 with
  | @lst a vs _ n1 h1 k1 =>
    cases a2
    obtain ⟨j, hj⟩ : ∃ j, ixN xs.length i = some j ∧ xs[j]? = some z := by
      unfold atI at h
      cases e : ixN xs.length i with
      | none => rw [e] at h; cases h
      | some j => rw [e] at h; exact ⟨j, rfl, h⟩
    obtain ⟨v, hv, kv⟩ := k1.of_get hj.2
    refine .inl ⟨a, vs, i, v, rfl, rfl, .inl (.inl h1), ?_, q v z H (Gr.refl _ H) kv rfl⟩
    unfold atI
    rw [k1.length, hj.1]
    exact hv
theorem od_ixT {xs : List PyData} {i : Int} {z : PyData} (h : atI xs i = some z) : OpD (rIx K) (.tuple xs) (.int i) (· = z) := fun F H x y Q tr a1 a2 q => by
  cases a1 with
  | @tup a vs _ n1 h1 k1 =>
    cases a2
    obtain ⟨j, hj⟩ : ∃ j, ixN xs.length i = some j ∧ xs[j]? = some z := by
      unfold atI at h
      cases e : ixN xs.length i with
      | none => rw [e] at h; cases h
      | some j => rw [e] at h; exact ⟨j, rfl, h⟩
    obtain ⟨v, hv, kv⟩ := k1.of_get hj.2
    refine .inr (.inl ⟨a, vs, i, v, rfl, rfl, h1.seq, ?_, q v z H (Gr.refl _ H) kv rfl⟩)
    unfold atI
    rw [k1.length, hj.1]
    exact hv
theorem od_ixS {x : Str} {i : Int} {c : Nat} (hx : x.length ≤ 100000) (h : atI x.cps.toList i = some c) : OpD (rIx K) (.str x) (.int i) (· = .str ⟨#[c]⟩) := fun F H u v Q tr a1 a2 q => by
  cases a1
  cases a2
  exact .inr (.inr ⟨x, i, c, rfl, rfl, Nat.le_trans hx (by decide), h, q _ _ H (Gr.refl _ H) (.str _) rfl⟩)
theorem cd_lenL {xs : List PyData} : CaD (rLenA K) [.list xs] (· = .int xs.length) := fun F H vs Q tr a q => by
  cases a with
  | cons h1 h2 =>
    cases h2
    cases h1 with
    | @lst p ys _ _ h3 h4 => exact .inl ⟨p, ys, rfl, .inl (.inl (.inl h3)), by rw [h4.length]; exact q _ _ H (Gr.refl _ H) (.int _) rfl⟩
theorem cd_lenT {xs : List PyData} : CaD (rLenA K) [.tuple xs] (· = .int xs.length) := fun F H vs Q tr a q => by
  cases a with
  | cons h1 h2 =>
    cases h2
    cases h1 with
    | @tup p ys _ _ h3 h4 => exact .inl ⟨p, ys, rfl, .inr h3.seq, by rw [h4.length]; exact q _ _ H (Gr.refl _ H) (.int _) rfl⟩
theorem cd_lenS {x : Str} (h : x.length ≤ 100000) : CaD (rLenA K) [.str x] (· = .int x.length) := fun F H vs Q tr a q => by
  cases a with
  | cons h1 h2 =>
    cases h2
    cases h1
    exact .inr ⟨x, rfl, Nat.le_trans h (by decide), q _ _ H (Gr.refl _ H) (.int _) rfl⟩
theorem cd_repr (h : Shown d) : CaD rRepr [d] (· = .str d.shown) := fun F H vs Q tr a q => by
  cases a with
  | cons h1 h2 =>
    cases h2
    exact ⟨F, _, d, rfl, h1, h, q _ _ H (Gr.refl _ H) (.str _) rfl⟩
end
/-! how bodies begin -/
def absOf (n : Nat) (ds : List PyData) : List Ab := ds.map Ab.dat ++ List.replicate n Ab.any
theorem das_slots {F : List Addr} {B : Bag} {H : Hp} : ∀ {vs : List V} {ds : List PyData} (n : Nat), Das F H vs ds → ∀ (i : Nat) (a : Ab) (o : Option V), (absOf n ds)[i]? = some a → (vs.map some ++ List.replicate n none)[i]? = some o → SlOk F B H a o
  | _, _, n, .nil, i, a, o, e1, e2 => by
    have z : a = .any := by
      unfold absOf at e1
      rw [List.map_nil, List.nil_append, List.getElem?_replicate] at e1
      split at e1
      · exact (Option.some.inj e1).symm
      · cases e1
    subst z
    trivial
  | _, _, n, .cons h t, 0, a, o, e1, e2 => by
    cases (show some (Ab.dat _) = some a from e1)
    cases (show some (some _) = some o from e2)
    exact ⟨_, rfl, h⟩
  | _, _, n, .cons h t, i + 1, a, o, e1, e2 => das_slots n t i a o e1 e2
theorem sl_startP {F : List Addr} {B : Bag} {H : Hp} {N : List Str} {vs : List V} {ds : List PyData} (h : Das F H vs ds) (n : Nat) (e : N.length = ds.length + n) : Sl F B H (L2.start N vs) (absOf n ds) := by
  have e2 : N.length - vs.length = n := by rw [h.length]; omega
  refine ⟨?_, fun i a o e3 e4 => das_slots n h i a o e3 ?_⟩
  · unfold L2.start absOf
    simp [h.length]
    rw [← h.length]
    omega
  · unfold L2.start at e4
    rw [e2] at e4
    exact e4
theorem sl_startB {F : List Addr} {b l : Addr} {H : Hp} {N : List Str} {vs : List V} {ds : List PyData} (h : Das F H vs ds) (n : Nat) (e : N.length = ds.length + n + 1) : Sl F (some (b, l)) H (L2.start N (.ref b :: vs)) (.bag :: absOf n ds) := by
  have q := sl_startP (N := N.tail) (B := some (b, l)) h n (by rw [List.length_tail]; omega)
  have s : L2.start N (.ref b :: vs) = some (.ref b) :: L2.start N.tail vs := by
    unfold L2.start
    rw [List.length_tail, List.map_cons, List.length_cons, List.cons_append, Nat.sub_sub, Nat.add_comm 1]
  rw [s]
  refine ⟨by simp [q.len], fun i a o e1 e2 => ?_⟩
  cases i with
  | zero =>
    cases (show some Ab.bag = some a from e1)
    cases (show some (some (V.ref b)) = some o from e2)
    exact ⟨b, l, rfl, rfl⟩
  | succ i => exact q.ok i a o e1 e2
/-- a pure def's body, over data -/
theorem pure_body {pre : List PyData → Prop} {post : List PyData → PyData → Prop} {N : List Str} {t : TS} {vs : List V} {H : Hp} {Q : VK} {E : XK} (h : SpP pre post vs H Q E) (n : Nat)
    (k : ∀ (F : List Addr) (ds : List PyData), pre ds → (∀ v d H', St [H] F none H' → Da F H' v d → post ds d → Q v H') → N.length = ds.length + n ∧ Ok [H] F none t { nx := fun _ H' => Q .non H', rt := Q } (absOf n ds)) :
    t { nx := fun _ H' => Q .non H', rt := Q } (L2.start N vs) H := by
  obtain ⟨F, ds, tr, a, p, q⟩ := h
  obtain ⟨e, k2⟩ := k F ds p fun v d H' s a' p' => q v d H' (s.ch H List.mem_cons_self) a' p'
  exact k2 _ H ⟨fun A m => by
    have e : A = H := by simpa using m
    rw [e]
    exact Gr.refl _ _, tr, fun b l z => nomatch z⟩ (sl_startP a n e)
/-- a drawing def's body -/
theorem bag_body {pre : List PyData → Prop} {post : List PyData → PyData → Prop} {N : List Str} {t : TS} {vs : List V} {H : Hp} {Q : VK} {E : XK} (h : SpB pre post vs H Q E) (n : Nat)
    (k : ∀ (F : List Addr) (b l : Addr) (ds : List PyData), pre ds → (∀ v d H', St [H] F (some (b, l)) H' → Da F H' v d → post ds d → Q v H') → N.length = ds.length + n + 1 ∧ Ok [H] F (some (b, l)) t { nx := fun _ H' => Q .non H', rt := Q } (.bag :: absOf n ds)) :
    t { nx := fun _ H' => Q .non H', rt := Q } (L2.start N vs) H := by
  obtain ⟨F, b, l, ws, ds, rfl, s, a, p, q⟩ := h
  obtain ⟨e, k2⟩ := k F b l ds p fun v d H' s a' p' => q v d H' s a' p'
  exact k2 _ H s (sl_startB a n e)
end Gd

/-! loops and comprehensions over data -/
namespace Gd
open PySem PySem.Spec PyProof.Rows L2
def awipe (ab : List Ab) : List Nat → List Ab
  | [] => ab
  | v :: vs => (awipe ab vs).set v .any
section
variable {Hi : List Hp} {H H' : Hp} {F : List Addr} {B : Bag} {σ : L2.St} {ab : List Ab}
theorem Sl.setN {i : Nat} (h : Sl F B H σ ab) : Sl F B H (σ.set i none) (ab.set i .any) := by
  refine ⟨by rw [List.length_set, List.length_set]; exact h.len, fun j a' o e1 e2 => ?_⟩
  by_cases ij : i = j
  · subst ij
    rw [List.getElem?_set] at e1
    simp only [if_pos] at e1
    split at e1
    · cases e1
      trivial
    · cases e1
  · rw [List.getElem?_set_ne ij] at e1 e2
    exact h.ok j a' o e1 e2
theorem Sl.wipe (h : Sl F B H σ ab) : ∀ vs : List Nat, Sl F B H (L2.wipe σ vs) (awipe ab vs)
  | [] => h
  | v :: vs => (h.wipe vs).setN
/-- what is kept when a new address is barred: slots that hold data alone -/
def Plain : List Ab → Prop
  | [] => True
  | .obj _ :: _ => False
  | _ :: r => Plain r
theorem Plain.at : ∀ {ab : List Ab} {i : Nat} {a : Ab}, Plain ab → ab[i]? = some a → ∀ R, a ≠ .obj R
  | .any :: r, 0, a, h, e, R => by cases (show some Ab.any = some a from e); exact fun z => nomatch z
  | .bag :: r, 0, a, h, e, R => by cases (show some Ab.bag = some a from e); exact fun z => nomatch z
  | .dat d :: r, 0, a, h, e, R => by cases (show some (Ab.dat d) = some a from e); exact fun z => nomatch z
  | .obj _ :: r, _, a, h, e, R => h.elim
  | .any :: r, i + 1, a, h, e, R => Plain.at (ab := r) h e R
  | .bag :: r, i + 1, a, h, e, R => Plain.at (ab := r) h e R
  | .dat d :: r, i + 1, a, h, e, R => Plain.at (ab := r) h e R
theorem Sl.bar {p : Addr} (n : H p = none) (pl : Plain ab) (h : Sl F B H σ ab) : Sl (p :: F) B H σ ab := ⟨h.len, fun i a o e1 e2 => by
  have q := h.ok i a o e1 e2
  cases a with
  | any => trivial
  | bag => exact q
  | dat d =>
    obtain ⟨v, e, k⟩ := q
    exact ⟨v, e, k.bar n⟩
  | obj R => exact absurd rfl (pl.at e1 R)⟩
theorem St.bar {p : Addr} {o : HO} (n : H p = none) (s : St Hi F B H) : St Hi (p :: F) B (upd H p o) := by
  have g : Gr [] H (upd H p o) := Gr.new n
  have s2 := s.same g
  refine ⟨s2.ch, fun q m => ?_, fun b l e => ?_⟩
  · rcases List.mem_cons.mp m with e | m
    · rw [e, upd_same]
      exact fun z => nomatch z
    · exact s2.tr q m
  · obtain ⟨h1, h2, h3, h4⟩ := s2.bag b l e
    exact ⟨List.mem_cons_of_mem _ h1, List.mem_cons_of_mem _ h2, h3, h4⟩
/-- a barred new object written again -/
theorem St.write {p : Addr} {o : HO} {H0 : Hp} (n : H0 p = none) (s0 : St Hi F B H0) (s : St Hi (p :: F) B H) : St Hi (p :: F) B (upd H p o) := by
  have np : ∀ A ∈ Hi, ∀ q u, A q = some u → q ∉ ob B → q ≠ p := fun A mA q u e m z => by
    have k := s0.ch A mA q u m e
    rw [z, n] at k
    cases k
  have nb : ∀ b l, B = some (b, l) → b ≠ p ∧ l ≠ p := fun b l e => by
    obtain ⟨h1, h2, _, _⟩ := s0.bag b l e
    exact ⟨fun z => s0.tr b h1 (z ▸ n), fun z => s0.tr l h2 (z ▸ n)⟩
  refine ⟨fun A mA q u m e => ?_, fun q m => ?_, fun b l e => ?_⟩
  · rw [upd_ne (np A mA q u e m)]
    exact s.ch A mA q u m e
  · by_cases qp : q = p
    · rw [qp, upd_same]
      exact fun z => nomatch z
    · rw [upd_ne qp]
      exact s.tr q m
  · obtain ⟨h1, h2, h3, n0, n1, n2, ns, hb, hl, hz⟩ := s.bag b l e
    refine ⟨h1, h2, h3, n0, n1, n2, ns, ?_, ?_, hz⟩
    · rw [upd_ne (nb b l e).1]
      exact hb
    · rw [upd_ne (nb b l e).2]
      exact hl
theorem St.put {p : Addr} {o : HO} (nA : ∀ A ∈ Hi, A p = none) (nb : ∀ b l, B = some (b, l) → b ≠ p ∧ l ≠ p) (s : St Hi F B H) : St Hi F B (upd H p o) := by
  refine ⟨fun A mA q u m e => ?_, fun q m => ?_, fun b l e => ?_⟩
  · rw [upd_ne (ne_of_none e (nA A mA))]
    exact s.ch A mA q u m e
  · by_cases qp : q = p
    · rw [qp, upd_same]
      exact fun z => nomatch z
    · rw [upd_ne qp]
      exact s.tr q m
  · obtain ⟨h1, h2, h3, n0, n1, n2, ns, hb, hl, hz⟩ := s.bag b l e
    refine ⟨h1, h2, h3, n0, n1, n2, ns, ?_, ?_, hz⟩
    · rw [upd_ne (nb b l e).1]
      exact hb
    · rw [upd_ne (nb b l e).2]
      exact hl
/-- and let go again -/
theorem St.free {p : Addr} {H0 : Hp} (s0 : St Hi F B H0) (s : St Hi (p :: F) B H) : St Hi F B H :=
  ⟨s.ch, fun q m => s.tr q (List.mem_cons_of_mem _ m), fun b l e => ⟨(s0.bag b l e).1, (s0.bag b l e).2.1, (s0.bag b l e).2.2.1, (s.bag b l e).2.2.2⟩⟩
end
/-- what walks: lists, tuples, signs of a text, a range; its items as data -/
def Src (Hi : List Hp) (F : List Addr) (B : Bag) (ab : List Ab) (K : PySem.W.Frag) (wi : TI) (P : List PyData → Prop) : Prop :=
  ∀ (σ : L2.St) (H : Hp) (R : It → Hp → Prop), St Hi F B H → Sl F B H σ ab →
    (∀ (J : It) (H1 : Hp) (ds : List PyData), Ch B H H1 → St Hi F B H1 → P ds → ds.length ≤ 100000 →
      (∀ H2 i, Gr F H1 H2 → (i < ds.length → J.go i H2) ∧ (ds.length ≤ i → J.stop i H2) ∧
        ∀ x H3, i < ds.length → J.yld i H2 x H3 → H3 = H2 ∧ ∃ d, ds[i]? = some d ∧ Da F H1 x d) → R J H1) → wi σ H R
section
variable {Hi : List Hp} {F : List Addr} {B : Bag} {ab : List Ab} {K : PySem.W.Frag} {te : TE} {ta : TA}
theorem src_list {P : List PyData → Prop} (h : Ev Hi F B ab te (fun d => ∃ ds, d = .list ds ∧ P ds ∧ ds.length ≤ 100000)) : Src Hi F B ab K (iList K te) P := fun σ H R s l q =>
  h σ H _ s l fun v d H1 c1 s1 a1 ⟨ds, e, p, z⟩ => by
    subst e
    cases a1 with
    | @lst a xs _ nf h1 k1 =>
      refine ⟨a, rfl, ⟨xs, .inl (.inl h1)⟩, q _ H1 ds c1 s1 p z fun H2 i g => ?_⟩
      have h2 : SqL K H2 a xs := .inl (.inl (g _ _ nf h1))
      refine ⟨fun lt => ⟨xs, xs[i]'(by rw [k1.length]; exact lt), h2, List.getElem?_eq_getElem _⟩, fun le => ⟨xs, h2, by rw [k1.length]; exact le⟩, fun x H3 lt y => ?_⟩
      obtain ⟨e3, y⟩ := y
      exact ⟨e3, k1.get (y xs h2)⟩
theorem src_tup {P : List PyData → Prop} (h : Ev Hi F B ab te (fun d => ∃ ds, d = .tuple ds ∧ P ds ∧ ds.length ≤ 100000)) : Src Hi F B ab K (iTup K te) P := fun σ H R s l q =>
  h σ H _ s l fun v d H1 c1 s1 a1 ⟨ds, e, p, z⟩ => by
    subst e
    cases a1 with
    | @tup a xs _ nf h1 k1 =>
      refine ⟨a, rfl, ⟨xs, h1.seq⟩, q _ H1 ds c1 s1 p z fun H2 i g => ?_⟩
      have h2 : SqT K H2 a xs := TupAt.seq (let ⟨o, d, e⟩ := h1; ⟨o, d, g _ _ nf e⟩)
      refine ⟨fun lt => ⟨xs, xs[i]'(by rw [k1.length]; exact lt), h2, List.getElem?_eq_getElem _⟩, fun le => ⟨xs, h2, by rw [k1.length]; exact le⟩, fun x H3 lt y => ?_⟩
      obtain ⟨e3, y⟩ := y
      exact ⟨e3, k1.get (y xs h2)⟩
def signs (x : Str) : List PyData := x.cps.toList.map fun c => PyData.str ⟨#[c]⟩
theorem signs_len (x : Str) : (signs x).length = x.length := by
  unfold signs
  rw [List.length_map]
  rfl
theorem src_str {P : List PyData → Prop} (h : Ev Hi F B ab te (fun d => ∃ x, d = .str x ∧ P (signs x) ∧ x.length ≤ 100000)) : Src Hi F B ab K (iStr te) P := fun σ H R s l q =>
  h σ H _ s l fun v d H1 c1 s1 a1 ⟨x, e, p, z⟩ => by
    subst e
    cases a1
    refine ⟨x, rfl, q _ H1 (signs x) c1 s1 p (by rw [signs_len]; exact z) fun H2 i g => ?_⟩
    rw [signs_len]
    refine ⟨fun lt => lt, fun le => le, fun v H3 lt y => ?_⟩
    obtain ⟨e3, c, ec, ev⟩ := y
    refine ⟨e3, .str ⟨#[c]⟩, ?_, ev ▸ .str _⟩
    unfold signs
    rw [List.getElem?_map]
    have : x.cps.toList[i]? = some c := by simpa using ec
    rw [this]
    rfl
def intL (lo : Int) (n : Nat) : List PyData := (List.range n).map fun i => PyData.int (lo + (i : Nat))
theorem src_rng1 {P : List PyData → Prop} (h : Evs Hi F B ab ta (fun ds => ∃ n : Nat, ds = [.int n] ∧ P (intL 0 n) ∧ n ≤ 100000)) : Src Hi F B ab K (iRng1 ta) P := fun σ H R s l q =>
  h σ H _ s l fun vs ds H1 c1 s1 a1 ⟨n, e, p, z⟩ => by
    subst e
    cases a1 with
    | cons h1 h2 =>
      cases h2
      cases h1
      have hn : ((n : Nat) : Int).toNat = n := by simp
      refine ⟨n, rfl, by omega, by omega, ?_⟩
      rw [hn]
      have hl : (intL 0 n).length = n := by simp [intL]
      refine q _ H1 (intL 0 n) c1 s1 p (by rw [hl]; exact z) fun H2 i g => ?_
      rw [hl]
      refine ⟨fun lt => lt, fun le => le, fun v H3 lt y => ?_⟩
      obtain ⟨e3, ev⟩ := y
      refine ⟨e3, .int (0 + (i : Nat)), ?_, ev ▸ .int _⟩
      unfold intL
      rw [List.getElem?_map, List.getElem?_range lt]
      rfl
end
section
variable {Hi : List Hp} {F : List Addr} {B : Bag} {ab : List Ab} {K : PySem.W.Frag} {wi : TI} {tt : TT} {te : TE} {P : List PyData → Prop} {tb : TS} {D : Ends}
theorem wipe_one {σ : L2.St} {i : Nat} {v : V} : L2.wipe ((L2.wipe σ [i]).set i (some v)) [i] = L2.wipe σ [i] := by
  show ((σ.set i none).set i (some v)).set i none = σ.set i none
  rw [List.set_set, List.set_set]
/-- [e for x in src if t]: an invariant over the items taken and the list made -/
theorem ev_lcW {i : Nat} {ab' : List Ab} (wk : ∀ (F : List Addr) (H : Hp) (σ : L2.St), Sl F B H σ ab → Sl F B H σ ab') (pl : Plain ab') (hs : Src Hi F B ab K wi P) (I : List PyData → Nat → List PyData → Prop)
    (h0 : ∀ ds, P ds → I ds 0 [])
    (ht : ∀ (ds : List PyData) (k : Nat) (d : PyData) (out : List PyData), P ds → ds[k]? = some d → I ds k out → ∀ F', EvT Hi F' B ((awipe ab' [i]).set i (.dat d)) tt
      (fun c => (c = true → ∀ F', Ev Hi F' B ((awipe ab' [i]).set i (.dat d)) te (fun e => I ds (k + 1) (out ++ [e]))) ∧ (c = false → I ds (k + 1) out))) :
    Ev Hi F B ab (tLc wi (gName i) tt te [i]) (fun r => ∃ ds out, P ds ∧ I ds ds.length out ∧ out.length ≤ ds.length ∧ ds.length ≤ 100000 ∧ r = .list out) := fun σ H Q s l q =>
  hs σ H _ s l fun J H1 ds c1 s1 p z hJ A nA => by
    have l1 : Sl F B H1 σ ab' := wk _ _ _ (l.gr (Ch.wide c1 s))
    refine ⟨fun k m H2 => m = ds.length - k ∧ k ≤ ds.length ∧ ∃ out acc, H2 A = some (.lst acc) ∧ Das (A :: F) H2 acc out ∧ I ds k out ∧ out.length ≤ k ∧ St Hi (A :: F) B H2 ∧ Gr (ob B) H1 H2,
      ⟨ds.length, by simp, Nat.zero_le _, [], [], upd_same, .nil, h0 ds p, Nat.le_refl _, s1.bar nA, (show Gr [] H1 _ from Gr.new nA).wide fun _ z => nomatch z⟩, ?_⟩
    rintro k m H2 ⟨rfl, hk, out, acc, e1, k1, i1, b1, s2, g2⟩
    obtain ⟨j1, j2, j3⟩ := hJ H2 k (g2.wide (ob_sub s1))
    by_cases hlt : k < ds.length
    · refine .inr ⟨j1 hlt, fun H3 => k + 1 ≤ ds.length ∧ ∃ out acc, H3 A = some (.lst acc) ∧ Das (A :: F) H3 acc out ∧ I ds (k + 1) out ∧ out.length ≤ k + 1 ∧ St Hi (A :: F) B H3 ∧ Gr (ob B) H1 H3,
        fun H3 ⟨a1, a2⟩ => ⟨ds.length - (k + 1), by omega, rfl, a1, a2⟩, fun x H3 y => ?_⟩
      obtain ⟨e3, d, ed, kd⟩ := j3 x H3 hlt y
      subst e3
      refine ⟨wipe_one, ?_⟩
      have g3 : Gr (A :: F) H1 H3 := g2.wide fun p m => List.mem_cons_of_mem _ (ob_sub s1 p m)
      have l3 : Sl (A :: F) B H3 ((L2.wipe σ [i]).set i (some x)) ((awipe ab' [i]).set i (.dat d)) :=
        Sl.set (a := .dat d) (((l1.bar nA pl).gr g3).wipe [i]) ⟨x, rfl, (kd.bar nA).gr g3⟩
      refine ht ds k d out p ed i1 (A :: F) _ H3 _ s2 l3 fun c H4 c4 s4 ⟨p1, p2⟩ => ?_
      have g4 : Gr (ob B) H1 H4 := g2.trans c4
      have e4 : H4 A = some (.lst acc) := by
        refine c4 A _ (fun m => ?_) e1
        exact s1.tr A (ob_sub s1 A m) nA
      have k4 : Das (A :: F) H4 acc out := k1.gr (Ch.wide c4 s2)
      cases c with
      | false =>
        exact iteF ⟨hlt, out, acc, e4, k4, p2 rfl, Nat.le_succ_of_le b1, s4, g4⟩
      | true =>
        refine iteT (p1 rfl (A :: F) _ H4 _ s4 (l3.gr (Ch.wide c4 s2)) fun v e H5 c5 s5 a5 p5 => ?_)
        have e5 : H5 A = some (.lst acc) := by
          refine c5 A _ (fun m => ?_) e4
          exact s1.tr A (ob_sub s1 A m) nA
        have k5 : Das (A :: F) H5 acc out := k4.gr (Ch.wide c5 s4)
        have w : Gr (A :: F) H5 (upd H5 A (.lst (acc ++ [v]))) := Gr.at List.mem_cons_self
        refine ⟨acc, e5, by rw [k4.length]; exact Nat.lt_of_le_of_lt (Nat.le_trans b1 (Nat.le_trans hk z)) (by decide), hlt, out ++ [e], acc ++ [v], upd_same, (k5.gr w).app (.cons (a5.gr w) .nil), p5,
          by rw [List.length_append]; exact Nat.add_le_add_right b1 1, St.write nA s1 s5, fun p u n e => ?_⟩
        rw [upd_ne (ne_of_none e nA)]
        exact (g4.trans c5) p u n e
    · have ek : k = ds.length := by omega
      subst ek
      refine .inl ⟨j2 (Nat.le_refl _), ?_⟩
      have s3 : St Hi F B H2 := s1.free s2
      exact q _ (.list out) H2 (c1.trans g2) s3 (.lst (fun m => s1.tr A m nA) e1 (k1.less fun p m => List.mem_cons_of_mem _ m)) ⟨ds, out, p, i1, b1, z, rfl⟩
theorem ev_lc {i : Nat} (pl : Plain ab) (hs : Src Hi F B ab K wi P) (I : List PyData → Nat → List PyData → Prop)
    (h0 : ∀ ds, P ds → I ds 0 [])
    (ht : ∀ (ds : List PyData) (k : Nat) (d : PyData) (out : List PyData), P ds → ds[k]? = some d → I ds k out → ∀ F', EvT Hi F' B ((awipe ab [i]).set i (.dat d)) tt
      (fun c => (c = true → ∀ F', Ev Hi F' B ((awipe ab [i]).set i (.dat d)) te (fun e => I ds (k + 1) (out ++ [e]))) ∧ (c = false → I ds (k + 1) out))) :
    Ev Hi F B ab (tLc wi (gName i) tt te [i]) (fun r => ∃ ds out, P ds ∧ I ds ds.length out ∧ out.length ≤ ds.length ∧ ds.length ≤ 100000 ∧ r = .list out) := ev_lcW (fun _ _ _ h => h) pl hs I h0 ht
theorem et_yes {F' : List Addr} {ab' : List Ab} : EkT Hi F' B ab' tYes true := fun σ H Q s l q => q true H (Gr.refl _ H) s rfl
/-- [f(x) for x in src] -/
theorem ev_lcMap {i : Nat} (pl : Plain ab) (hs : Src Hi F B ab K wi P) (R : PyData → PyData → Prop)
    (he : ∀ (ds : List PyData) (k : Nat) (d : PyData), P ds → ds[k]? = some d → ∀ F', Ev Hi F' B ((awipe ab [i]).set i (.dat d)) te (R d)) :
    Ev Hi F B ab (tLc wi (gName i) tYes te [i]) (fun r => ∃ ds out, P ds ∧ ds.length ≤ 100000 ∧ r = .list out ∧ out.length = ds.length ∧ ∀ (k : Nat) (d e : PyData), ds[k]? = some d → out[k]? = some e → R d e) := by
  refine (ev_lc pl hs (fun ds k out => out.length = k ∧ ∀ (j : Nat) (d e : PyData), ds[j]? = some d → out[j]? = some e → R d e) (fun ds p => ⟨rfl, fun j d e _ z => nomatch z⟩) (fun ds k d out p ed ⟨i1, i2⟩ F' => ?_)).imp fun r ⟨ds, out, p, ⟨i1, i2⟩, b, z, e⟩ => ⟨ds, out, p, z, e, i1, i2⟩
  refine et_yes.imp fun c ec => ⟨fun _ F2 => ?_, fun z => ?_⟩
  · refine (he ds k d p ed F2).imp fun e r => ⟨by rw [List.length_append, i1]; rfl, fun j d' e' h1 h2 => ?_⟩
    by_cases hj : j < out.length
    · rw [List.getElem?_append_left hj] at h2
      exact i2 j d' e' h1 h2
    · rw [List.getElem?_append_right (by omega)] at h2
      have : j - out.length = 0 := by
        have := (List.getElem?_eq_some_iff.mp h2).1
        simp at this
        omega
      rw [this] at h2
      cases (show some e = some e' from h2)
      have jk : j = k := by omega
      rw [jk, ed] at h1
      cases h1
      exact r
  · rw [ec] at z
    cases z
theorem ek_lcMap {i : Nat} {ds : List PyData} (pl : Plain ab) (hs : Src Hi F B ab K wi (· = ds)) (f : PyData → PyData)
    (he : ∀ (k : Nat) (d : PyData), ds[k]? = some d → ∀ F', Ek Hi F' B ((awipe ab [i]).set i (.dat d)) te (f d)) : Ek Hi F B ab (tLc wi (gName i) tYes te [i]) (.list (ds.map f)) := by
  refine (ev_lcMap pl hs (fun d e => e = f d) fun ds' k d p ed F' => he k d (p ▸ ed) F').imp fun r ⟨ds', out, p, z, e, l, h⟩ => ?_
  subst p
  rw [e]
  congr 1
  apply List.ext_getElem?
  intro j
  rw [List.getElem?_map]
  by_cases hj : j < ds'.length
  · have e1 := List.getElem?_eq_getElem hj
    have e2 := List.getElem?_eq_getElem (l := out) (i := j) (by omega)
    rw [e1, e2, h j _ _ e1 e2]
    rfl
  · rw [List.getElem?_eq_none (by omega), List.getElem?_eq_none (by omega)]
    rfl
/-- [f(x) for x in src if t(x)] -/
theorem ek_lcFil {i : Nat} {ds : List PyData} (pl : Plain ab) (hs : Src Hi F B ab K wi (· = ds)) (f : PyData → PyData) (t : PyData → Bool)
    (ht : ∀ (k : Nat) (d : PyData), ds[k]? = some d → ∀ F', EkT Hi F' B ((awipe ab [i]).set i (.dat d)) tt (t d))
    (he : ∀ (k : Nat) (d : PyData), ds[k]? = some d → t d = true → ∀ F', Ek Hi F' B ((awipe ab [i]).set i (.dat d)) te (f d)) : Ek Hi F B ab (tLc wi (gName i) tt te [i]) (.list ((ds.filter t).map f)) := by
  refine (ev_lc pl hs (fun ds k out => out = ((ds.take k).filter t).map f) (fun ds p => rfl) (fun ds' k d out p ed i1 F' => ?_)).imp fun r ⟨ds', out, p, i1, b, z, e⟩ => by
    subst p
    rw [e, i1, List.take_length]
  subst p
  have tk : ds'.take (k + 1) = ds'.take k ++ [d] := by
    rw [List.take_succ, ed]
    rfl
  refine (ht k d ed F').imp fun c ec => ⟨fun z F2 => (he k d ed (by rw [← ec, z]) F2).imp fun e r => ?_, fun z => ?_⟩
  · rw [tk, List.filter_append, List.map_append, ← i1, r]
    congr 1
    simp [← ec, z]
  · rw [tk, List.filter_append, List.map_append, ← i1]
    simp [← ec, z]
/-- for x in src: an invariant over the items taken and the slots -/
theorem ok_for {i : Nat} (hs : Src Hi F B ab K wi P) (I : List PyData → Nat → List Ab → Prop) (h0 : ∀ ds, P ds → I ds 0 ab)
    (hb : ∀ (ds : List PyData) (k : Nat) (d : PyData) (ab' : List Ab) (Hj : List Hp) (N : L2.St → Hp → Prop), P ds → ds[k]? = some d → I ds k ab' → (∀ A ∈ Hi, A ∈ Hj) →
      (∀ ab2, I ds (k + 1) ab2 → OkK Hj F B N ab2) → Ok Hj F B tb { D with nx := N, ct := N, bk := D.nx } (ab'.set i (.dat d)))
    (hd : ∀ ds ab', P ds → I ds ds.length ab' → OkK Hi F B D.nx ab') : Ok Hi F B (tFor wi (gName i) tb) D ab := fun σ H s l =>
  hs σ H _ s l fun J H1 ds c1 s1 p z hJ => by
    refine ⟨fun k m σ2 H2 => m = ds.length - k ∧ k ≤ ds.length ∧ ∃ ab', I ds k ab' ∧ Sl F B H2 σ2 ab' ∧ St (H1 :: Hi) F B H2, ⟨ds.length, by simp, Nat.zero_le _, ab, h0 ds p, l.gr (Ch.wide c1 s), s1.push⟩, ?_⟩
    rintro k m σ2 H2 ⟨rfl, hk, ab', i1, l2, s2⟩
    have g2 : Gr (ob B) H1 H2 := s2.ch H1 List.mem_cons_self
    obtain ⟨j1, j2, j3⟩ := hJ H2 k (g2.wide (ob_sub s1))
    by_cases hlt : k < ds.length
    · refine .inr ⟨j1 hlt, fun σ3 H3 => k + 1 ≤ ds.length ∧ ∃ ab', I ds (k + 1) ab' ∧ Sl F B H3 σ3 ab' ∧ St (H1 :: Hi) F B H3, fun σ3 H3 ⟨a1, a2⟩ => ⟨ds.length - (k + 1), by omega, rfl, a1, a2⟩, fun x H3 y => ?_⟩
      obtain ⟨e3, d, ed, kd⟩ := j3 x H3 hlt y
      subst e3
      refine hb ds k d ab' (H1 :: Hi) _ p ed i1 (fun A m => List.mem_cons_of_mem _ m) (fun ab2 i2 σ4 H4 s4 l4 => ⟨hlt, ab2, i2, l4, s4⟩) _ H3 s2 (Sl.set (a := .dat d) l2 ⟨x, rfl, kd.gr (g2.wide (ob_sub s1))⟩)
    · have ek : k = ds.length := by omega
      subst ek
      exact .inl ⟨j2 (Nat.le_refl _), hd ds ab' p i1 σ2 H2 (s2.sub fun A m => List.mem_cons_of_mem _ m) l2⟩
end
end Gd

/-! how long data is when it is shown; kinds; more operations -/
namespace Gd
open PySem PySem.Spec PyProof.Rows L2
mutual
/-- texts of at most a hundred signs, ints of at most a thousand bits -/
def okd : PyData → Bool
  | .none | .bool _ => true
  | .int i => decide (i.natAbs.log2 < 1000)
  | .str x => x.cps.all (· < 1114112) && decide (x.length ≤ 100)
  | .list xs | .tuple xs => okdAll xs
  | .dict kvs => okdKv kvs
def okdAll : List PyData → Bool
  | [] => true
  | x :: xs => okd x && okdAll xs
def okdKv : List (PyData × PyData) → Bool
  | [] => true
  | (k, v) :: r => okd k && okd v && okdKv r
end
mutual
def wt : PyData → Nat
  | .none => 4
  | .bool _ => 5
  | .int i => i.natAbs.log2 + 3
  | .str x => 10 * x.length + 2
  | .list xs => 2 + wtAll xs
  | .tuple xs => 3 + wtAll xs
  | .dict kvs => 2 + wtKv kvs
def wtAll : List PyData → Nat
  | [] => 0
  | x :: xs => wt x + 2 + wtAll xs
def wtKv : List (PyData × PyData) → Nat
  | [] => 0
  | (k, v) :: r => wt k + wt v + 4 + wtKv r
end
theorem listText_le (ts : List Str) : (listText ts).length ≤ 2 + piled ts := by
  unfold listText
  rw [strLen_append]
  have e : ((("]" : String) : Str)).length = 1 := rfl
  rw [e]
  cases ts with
  | nil => show (("[" : String) : Str).length + 1 ≤ _; decide
  | cons t r =>
    show (textFrom 1 (("[" : Str) ++ (if 0 > 0 then ", " else "" : String) ++ t) r).length + 1 ≤ _
    rw [textFrom_length_pos r 1 _ (by decide), strLen_append, strLen_append, piled_cons]
    have e1 : (("[" : String) : Str).length = 1 := rfl
    have e2 : (((if 0 > 0 then ", " else "" : String)) : Str).length = 0 := rfl
    rw [e1, e2]
    omega
theorem join_le (ts : List Str) : (Str.join ", " ts).length ≤ piled ts := by
  by_cases h : ts = []
  · subst h
    decide
  · have := join_length_add ts h
    omega
theorem tupleText_le (ts : List Str) : (tupleText ts).length ≤ 3 + piled ts := by
  unfold tupleText
  rw [strLen_append, strLen_append]
  have e1 : ((("(" : String) : Str)).length = 1 := rfl
  have e2 : (((if ts.length == 1 then ",)" else ")" : String)) : Str).length ≤ 2 := by split <;> decide
  have := join_le ts
  omega
theorem dictText_le (ts : List Str) : (dictText ts).length ≤ 2 + piled ts := by
  unfold dictText
  rw [strLen_append, strLen_append]
  have e1 : ((("{" : String) : Str)).length = 1 := rfl
  have e2 : ((("}" : String) : Str)).length = 1 := rfl
  have := join_le ts
  omega
mutual
theorem shown_wt : ∀ d : PyData, okd d = true → d.shown.length ≤ wt d
  | .none, _ => by simp only [PyData.shown]; decide
  | .bool b, _ => by simp only [PyData.shown]; cases b <;> decide
  | .int i, h => by
    simp only [PyData.shown, wt]
    have h' : i.natAbs.log2 < 1000 := by simpa [okd] using h
    have := int_text_length_le (a := i) (k := i.natAbs.log2 + 1) (by omega) (by omega)
    show (Str.ofString (toString i)).length ≤ _
    rw [PySem.ofString_length]
    omega
  | .str x, h => by
    simp only [PyData.shown, wt]
    have h' : (x.cps.all (· < 1114112) && decide (x.length ≤ 100)) = true := by simpa only [okd] using h
    have h2 := (Bool.and_eq_true_iff.mp h').1
    refine StrLaws.reprText_len x fun c hc => ?_
    have := Array.all_eq_true'.mp h2 c (by simpa using hc)
    have : c < 1114112 := by simpa using this
    omega
  | .list xs, h => by
    simp only [PyData.shown, wt]
    have := listText_le (PyData.shownAll xs)
    have := shownAll_wt xs (by simpa only [okd] using h)
    omega
  | .tuple xs, h => by
    simp only [PyData.shown, wt]
    have := tupleText_le (PyData.shownAll xs)
    have := shownAll_wt xs (by simpa only [okd] using h)
    omega
  | .dict kvs, h => by
    simp only [PyData.shown, wt]
    have := dictText_le (PyData.shownKv kvs)
    have := shownKv_wt kvs (by simpa only [okd] using h)
    omega
theorem shownAll_wt : ∀ ds : List PyData, okdAll ds = true → piled (PyData.shownAll ds) ≤ wtAll ds
  | [], _ => by simp only [PyData.shownAll]; decide
  | d :: ds, h => by
    have h' := Bool.and_eq_true_iff.mp (show (okd d && okdAll ds) = true by simpa only [okdAll] using h)
    simp only [PyData.shownAll, wtAll, piled_cons]
    have := shown_wt d h'.1
    have := shownAll_wt ds h'.2
    omega
theorem shownKv_wt : ∀ ds : List (PyData × PyData), okdKv ds = true → piled (PyData.shownKv ds) ≤ wtKv ds
  | [], _ => by simp only [PyData.shownKv]; decide
  | (k, v) :: ds, h => by
    have h' := Bool.and_eq_true_iff.mp (show ((okd k && okd v) && okdKv ds) = true by simpa only [okdKv] using h)
    have h2 := Bool.and_eq_true_iff.mp h'.1
    simp only [PyData.shownKv, wtKv, piled_cons]
    have e : (k.shown ++ ((": " : String) : Str) ++ v.shown).length = k.shown.length + 2 + v.shown.length := by
      rw [strLen_append, strLen_append]
      rfl
    have := shown_wt k h2.1
    have := shown_wt v h2.2
    have := shownKv_wt ds h'.2
    have e2 : (k.shown ++ ": " ++ v.shown).length = k.shown.length + 2 + v.shown.length := e
    omega
end
mutual
theorem showable_okd : ∀ d : PyData, okd d = true → d.showable = true
  | .none, _ => rfl
  | .bool _, _ => rfl
  | .str _, _ => rfl
  | .int i, h => by
    have h' : i.natAbs.log2 < 1000 := by simpa [okd] using h
    simp only [PyData.showable, decide_eq_true_eq]
    omega
  | .list xs, h => by simpa only [PyData.showable] using showableAll_okd xs (by simpa only [okd] using h)
  | .tuple xs, h => by simpa only [PyData.showable] using showableAll_okd xs (by simpa only [okd] using h)
  | .dict kvs, h => by simpa only [PyData.showable] using showableKv_okd kvs (by simpa only [okd] using h)
theorem showableAll_okd : ∀ ds : List PyData, okdAll ds = true → PyData.showableAll ds = true
  | [], _ => rfl
  | d :: ds, h => by
    have h' := Bool.and_eq_true_iff.mp (show (okd d && okdAll ds) = true by simpa only [okdAll] using h)
    simp only [PyData.showableAll, showable_okd d h'.1, showableAll_okd ds h'.2, Bool.and_self]
theorem showableKv_okd : ∀ ds : List (PyData × PyData), okdKv ds = true → PyData.showableKv ds = true
  | [], _ => rfl
  | (k, v) :: ds, h => by
    have h' := Bool.and_eq_true_iff.mp (show ((okd k && okd v) && okdKv ds) = true by simpa only [okdKv] using h)
    have h2 := Bool.and_eq_true_iff.mp h'.1
    simp only [PyData.showableKv, showable_okd k h2.1, showable_okd v h2.2, showableKv_okd ds h'.2, Bool.and_self]
end
/-- data of a moderate size -/
structure Fine (d : PyData) : Prop where
  ok : okd d = true
  wt : wt d ≤ 1000000
  deep : d.depth ≤ 50
theorem Fine.shown {d : PyData} (h : Fine d) (k : d.hasDict = true → hasList d = false) : Shown d :=
  ⟨showable_okd d h.ok, Nat.le_trans h.deep (by decide), Nat.le_trans (shown_wt d h.ok) (Nat.le_trans h.wt (by decide)), k⟩
mutual
theorem canLay_okd : ∀ d : PyData, okd d = true → d.hasDict = false → d.canLay0 = true
  | .none, _, _ => rfl
  | .bool _, _, _ => rfl
  | .int _, _, _ => rfl
  | .str x, h, _ => by
    have h' := Bool.and_eq_true_iff.mp (show (x.cps.all (· < 1114112) && decide (x.length ≤ 100)) = true by simpa only [okd] using h)
    simp only [PyData.canLay0]
    exact h'.1
  | .list xs, h, n => by simpa only [PyData.canLay0] using canLayAll_okd xs (by simpa only [okd] using h) (by simpa only [PyData.hasDict] using n)
  | .tuple xs, h, n => by simpa only [PyData.canLay0] using canLayAll_okd xs (by simpa only [okd] using h) (by simpa only [PyData.hasDict] using n)
  | .dict _, _, n => by simp [PyData.hasDict] at n
theorem canLayAll_okd : ∀ ds : List PyData, okdAll ds = true → PyData.hasDictAll ds = false → PyData.canLayAll0 ds = true
  | [], _, _ => rfl
  | d :: ds, h, n => by
    have h' := Bool.and_eq_true_iff.mp (show (okd d && okdAll ds) = true by simpa only [okdAll] using h)
    have n' := Bool.or_eq_false_iff.mp (show (d.hasDict || PyData.hasDictAll ds) = false by simpa only [PyData.hasDictAll] using n)
    simp only [PyData.canLayAll0, canLay_okd d h'.1 n'.1, canLayAll_okd ds h'.2 n'.2, Bool.and_self]
end
theorem Fine.shp {d : PyData} (h : Fine d) (n : d.hasDict = false) : Shp d := by
  show (d.canLay0 && decide (d.depth ≤ 64)) = true
  rw [canLay_okd d h.ok n, decide_eq_true (Nat.le_trans h.deep (by decide))]
  rfl
/-! kinds -/
def tyN : PyData → String
  | .none => "NoneType"
  | .bool _ => "bool"
  | .int _ => "int"
  | .str _ => "str"
  | .list _ => "list"
  | .tuple _ => "tuple"
  | .dict _ => "dict"
theorem tyX_of {K : PySem.W.Frag} {F : List Addr} {H : Hp} {v : V} {d : PyData} (h : Da F H v d) : TyX K H v (.type (tyN d)) := by
  cases h with
  | non => exact .base .non
  | bl b => exact .base (.bl b)
  | int i => exact .base (.int i)
  | str x => exact .base (.str x)
  | lst _ h1 _ => exact .base (.lst h1)
  | tup _ h1 _ =>
    obtain ⟨o, _, e⟩ := h1
    exact .fTuple e
  | dct _ h1 _ _ => exact .base (.dK h1)
section
variable {Hi : List Hp} {F : List Addr} {B : Bag} {ab : List Ab} {K : PySem.W.Frag} {te : TE} {d : PyData} {φ : PyData → Prop}
/-- isinstance(x, T) -/
theorem ek_isi {n : String} {c : Bool} (h : Ek Hi F B ab te d) (k : kitB (tyN d) n = some c) : Ek Hi F B ab (tCB (rIsi K) (tCons te (tCons (tC (.ty n)) tNil))) (.bool c) := fun σ H Q s l q =>
  h σ H _ s l fun v d' H1 c1 s1 a1 p => by
    subst p
    exact ⟨v, .ty n, .type (tyN d'), .type n, c, rfl, .ty n, tyX_of a1, kit_ty k, q _ _ H1 c1 s1 (.bl c) rfl⟩
/-- isinstance(x, (T, U)) -/
theorem ek_isiT {n m : String} {c1 c2 : Bool} (h : Ek Hi F B ab te d) (k1 : kitB (tyN d) n = some c1) (k2 : kitB (tyN d) m = some c2) :
    Ek Hi F B ab (tCB (rIsiT K) (tCons te (tCons (tTup (tCons (tC (.ty n)) (tCons (tC (.ty m)) tNil))) tNil))) (.bool (c1 || c2)) := fun σ H Q s l q =>
  h σ H _ s l fun v d' H1 ch1 s1 a1 p => by
    subst p
    refine ⟨by show 2 ≤ sizeLine; decide, fun t ht => ?_⟩
    have g : Gr F H1 (upd H1 t (.tup [.ty n, .ty m])) := Gr.new ht
    have g0 : Gr [] H1 (upd H1 t (.tup [.ty n, .ty m])) := Gr.new ht
    refine ⟨v, t, [.ty n, .ty m], .type (tyN d'), [.type n, .type m], c1 || c2, rfl, upd_same, .cons (.ty n) (.cons (.ty m) .nil), tyX_of (a1.gr g), ?_, q _ _ _ (ch1.trans (ch_of g0)) (s1.same g0) (.bl _) rfl⟩
    refine kitAny_cons (kit_ty k1) (fun z => kitAny_cons (kit_ty k2) (fun z2 => ?_) fun z2 => ?_) fun z => ?_
    · subst z z2
      rfl
    · subst z z2
      rfl
    · subst z
      rfl
/-- all([True, False ..]) -/
theorem das_bools {F : List Addr} {H : Hp} : ∀ {bs : List Bool} {vs : List V}, Das F H vs (bs.map PyData.bool) → vs = bs.map V.bl
  | [], _, h => by
    cases h
    rfl
  | b :: bs, _, h => by
    cases h with
    | cons h1 h2 =>
      cases h1
      rw [das_bools h2]
      rfl
theorem cd_all {bs : List Bool} : CaD (rAll K) [.list (bs.map PyData.bool)] (· = .bool (bs.all id)) := fun F H vs Q tr a q => by
  cases a with
  | cons h1 h2 =>
    cases h2
    cases h1 with
    | @lst p ys _ _ h3 h4 =>
      rw [das_bools h4] at h3
      exact ⟨p, bs, rfl, .inl (.inl h3), q _ _ H (Gr.refl _ H) (.bl _) rfl⟩
/-- c in "letters" -/
theorem od_inS {c : Nat} {z : Str} : OpD (fun x y H Q => ∃ (c : Nat) (z : Str), x = .str ⟨#[c]⟩ ∧ y = .str z ∧ Q (.bl (decide (c ∈ z.cps.toList))) H) (.str ⟨#[c]⟩) (.str z) (· = .bool (decide (c ∈ z.cps.toList))) := fun F H x y Q tr a1 a2 q => by
  cases a1
  cases a2
  exact ⟨c, z, rfl, rfl, q _ _ H (Gr.refl _ H) (.bl _) rfl⟩
theorem od_ninS {c : Nat} {z : Str} : OpD (fun x y H Q => ∃ (c : Nat) (z : Str), x = .str ⟨#[c]⟩ ∧ y = .str z ∧ Q (.bl (!decide (c ∈ z.cps.toList))) H) (.str ⟨#[c]⟩) (.str z) (· = .bool (!decide (c ∈ z.cps.toList))) := fun F H x y Q tr a1 a2 q => by
  cases a1
  cases a2
  exact ⟨c, z, rfl, rfl, q _ _ H (Gr.refl _ H) (.bl _) rfl⟩
/-- a <= b <= c of ints, as a test -/
theorem ek_chain {r r' : R2} {ta tb tc : TE} {a b c : PyData} {p q : Bool} (h1 : Ek Hi F B ab ta a) (h2 : Ek Hi F B ab tb b) (h3 : Ek Hi F B ab tc c) (o1 : OpD r a b (· = .bool p)) (o2 : OpD r' b c (· = .bool q)) :
    Ek Hi F B ab (tChain r r' ta tb tc) (.bool (p && q)) := fun σ H Q s l k =>
  h1 σ H _ s l fun x dx H1 c1 s1 a1 p1 => h2 σ H1 _ s1 (l.gr (Ch.wide c1 s)) fun y dy H2 c2 s2 a2 p2 => by
    subst p1 p2
    refine o1 F H2 x y _ s2.tr (a1.gr (Ch.wide c2 s1)) a2 fun z dz H3 g3 a3 p3 => ?_
    subst p3
    cases a3
    refine ⟨p, rfl, ?_⟩
    have c3 : Ch B H H3 := (c1.trans c2).trans (ch_of g3)
    have s3 := s2.same g3
    cases p with
    | false => exact iteF (k _ _ H3 c3 s3 (.bl false) rfl)
    | true =>
      refine iteT (h3 σ H3 _ s3 (l.gr (Ch.wide c3 s)) fun w dw H4 c4 s4 a4 p4 => ?_)
      subst p4
      refine o2 F H4 y w _ s4.tr ((a2.gr (Gr.wide g3 fun _ z => nomatch z)).gr (Ch.wide c4 s3)) a4 fun z dz H5 g5 a5 p5 => ?_
      subst p5
      cases a5
      exact k _ _ H5 (c3.trans (c4.trans (ch_of g5))) (s4.same g5) (.bl q) rfl
end
end Gd

/-! list(text) -/
namespace Gd
open PySem PySem.Spec PyProof.Rows L2 PySem.W
section
variable {prog : Program} {w : World} {A : Around} {E : Value → Shared → Prop} {s : Shared} {x : Str} {t : Tok}
theorem hint_str {Q : Bool → Shared → Prop} (h : ∀ b, Q b s) : wpAny (model prog w) A (Builtin.List.listLengthHint (.str x t)) Q E s := by
  unfold Builtin.List.listLengthHint
  refine wpAny_bind (wpAny_specialOf (typeIs_str s x t) PySem.F.slot_str_len.lookup ?_)
  generalize hid : ("str.__len__" : String) = id0
  wp_delta
  rw [show splitId id0 = some ("str", "__len__") from by subst hid; decide +kernel]
  subst hid
  refine wpAny_bind (wpAny_isInstance (T := "str") (b := true) (typeIs_str s x t) (by rw [isSubtype_type]; kernel_rfl) ?_)
  refine wpAny_ite_split (fun ab => absurd ab (by decide)) (fun _ => ?_)
  refine wpAny_ite_split (fun _ => ?_) (fun ab => absurd (by decide +kernel) ab)
  refine wpAny_bind (wpAny_typeOf (typeIs_str s x t) ?_)
  exact wpAny_pure (h false)
theorem text_extend {R : Result → Shared → Prop} (hh : A.handled = none) (S : Addr) (res : Value) (c₀ : Nat) (hS : s.heap.get? S = some { cls := .type "list", data := .seq #[] c₀ })
    (hR : ∀ h' tk acc' c', (∀ b o, b ≠ S → s.heap.get? b = some o → h'.get? b = some o) →
      h'.get? S = some { cls := .type "list", dict := none, data := .seq acc' c', slots := #[] } → ItemsOf (SignAt x) acc' x.cps.size → R (.ok (.ret res)) { s with heap := h', toks := tk })
    (hn : x.cps.size ≤ sizeLine) :
    wpAny (model prog w) A.in1 (Builtin.List.listExtendWith (.ref S) (.str x t) res)
      (fun fin s' => match fin with | .done f => R (.ok f) s' | .again c' => c'.quiet = true ∧ codeAny (model prog w) A c' R s') (fun e s' => R (.error e) s') s := by
  have hSI : S ≠ s.heap.objs.size := Nat.ne_of_lt (Heap.lt_size hS)
  have hSf : S ∉ [s.heap.objs.size] := by simpa using hSI
  unfold Builtin.List.listExtendWith
  refine wpAny_bind (wpAny_typeOf (T := "str") (typeIs_str s x t) ?_)
  have h1 : Builtin.List.listSameRef (.ref S) (.str x t) = false := rfl
  have h2 : (Value.type "str" == Value.type "list") = false := by decide
  have h3 : (Value.type "str" == Value.type "tuple") = false := by decide
  simp only [h1, h2, h3, Bool.or_false, Bool.false_eq_true, if_false]
  refine wpAny_bind (wpAny_pyIter_str fun oI St W0 st => ?_)
  have W := W0 A.in1 hh
  have key : ∀ (h : Heap) (c₁ tk : Nat), St 0 h → (∀ b o, b ≠ S → s.heap.get? b = some o → h.get? b = some o) →
      h.get? S = some { cls := .type "list", data := .seq #[] c₁ } →
      codeAny (model prog w) A (.builtin "list.extend.loop" ⟨[.ref S, .ref s.heap.objs.size, res], []⟩) R { s with heap := h, toks := tk } := by
    intro h c₁ tk hst hk hS₁
    refine codeAny_extend_loopS W.toS hn S hSf res x.cps.size 0 _ #[] c₁ rfl (Nat.zero_le _) hst hS₁ (ItemsOf.nil _) fun s2 acc' c' hm hS2 hacc => ?_
    rw [Moved.eq_with hm]
    refine hR s2.heap s2.toks acc' c' (fun b o hb e => hm.heap b o (fun mem => ?_) (hk b o hb e)) hS2 hacc
    rcases List.mem_cons.mp mem with e2 | mem
    · exact hb e2
    · exact absurd (Heap.lt_size e) (by rw [List.mem_singleton.mp mem]; exact Nat.lt_irrefl _)
  have hS₁ := Heap.get?_push_of_some oI hS
  refine wpAny_bind (wpAny_holding (hint_str fun room => ?_))
  refine wpAny_ite_split (fun _ => ?_) (fun _ => wpAny_pure ⟨plainId_quiet PySem.F.plain_extend_loop _, key _ c₀ _ st (fun b o _ e => Heap.get?_push_of_some _ e) hS₁⟩)
  refine wpAny_bind (wpAny_rule ?_)
  refine wpAny_bind ?_
  show wpAny _ _ (updateSeq S (·.push .none) >>= fun _ => updateSeq S (·.pop)) _ _ _
  refine wpAny_bind (wpAny_updateSeq hS₁ rfl ?_)
  have hS₂ := Heap.get?_update_self (Obj.mapSeq (·.push Value.none)) hS₁ rfl
  refine wpAny_updateSeq (hz := by seq_fits) hS₂ rfl ?_
  have hS₃ := Heap.get?_update_self (Obj.mapSeq (·.pop)) hS₂ rfl
  refine wpAny_pure ⟨plainId_quiet PySem.F.plain_extend_loop _, key _ _ _ ?_ (fun b o hb e => ?_) hS₃⟩
  · refine W.frame 0 _ _ st fun b hb o e => ?_
    have nS : b ≠ S := fun z => hSf (z ▸ hb)
    exact (Heap.get?_update_other _ _ (Ne.symm nS)).trans ((Heap.get?_update_other _ _ (Ne.symm nS)).trans e)
  · exact (Heap.get?_update_other _ _ (Ne.symm hb)).trans ((Heap.get?_update_other _ _ (Ne.symm hb)).trans (Heap.get?_push_of_some _ e))
theorem text_list {Q : Value → Shared → Prop} (hh : A.handled = none) (hn : x.cps.size ≤ sizeLine)
    (hQ : ∀ h' tk acc' c', (∀ b o, s.heap.get? b = some o → h'.get? b = some o) →
      h'.get? s.heap.objs.size = some { cls := .type "list", dict := none, data := .seq acc' c', slots := #[] } → ItemsOf (SignAt x) acc' x.cps.size → Q (.ref s.heap.objs.size) { s with heap := h', toks := tk }) :
    wpAny (model prog w) A (call (.type "list") [.str x t]) Q E s := by
  refine callType_codes (Q₁ := fun obj s₁ => obj = .ref s.heap.objs.size ∧ s₁ = { s with heap := s.heap.push { cls := .type "list", data := .seq #[] } })
    PySem.F.called_list (PySem.F.typeCall_list_1 _) PySem.F.entry_list_init (code_list_new _ ⟨rfl, rfl⟩) fun obj s₁ h₁ => ?_
  obtain ⟨rfl, rfl⟩ := h₁
  have hS : (s.heap.push { cls := .type "list", data := .seq #[] }).get? s.heap.objs.size = some { cls := .type "list", data := .seq #[] } := Heap.get?_push_size _ rfl
  refine ⟨⟨_, hS, rfl⟩, PySem.F.args_list_init_2 _ _, ?_⟩
  show wpAny _ _ (do let old ← Builtin.List.listItems (.ref s.heap.objs.size); Builtin.List.listUpdate (.ref s.heap.objs.size) (fun _ => #[]); letGo old.toList.reverse; Builtin.List.listExtendWith (.ref s.heap.objs.size) (.str x t) .none) _ _ _
  refine wpAny_bind ?_
  unfold Builtin.List.listItems
  refine wpAny_bind (wpAny_seqItems hS rfl (wpAny_pure ?_))
  show wpAny _ _ (updateSeq s.heap.objs.size (fun _ => #[]) >>= fun _ => letGo (#[] : Array Value).toList.reverse >>= fun _ => Builtin.List.listExtendWith (.ref s.heap.objs.size) (.str x t) .none) _ _ _
  refine wpAny_bind (wpAny_updateSeq hS rfl ?_)
  have hS₂ := Heap.get?_update_self (Obj.mapSeq (fun _ => (#[] : Array Value))) hS rfl
  refine wpAny_bind (wpAny_letGo ?_)
  refine text_extend (A := A.in1) hh _ .none _ hS₂ (fun h' tk acc' c' hk hS' hacc => ?_) hn
  refine ⟨rfl, hQ h' tk acc' c' (fun b o e => hk b o (Nat.ne_of_lt (Heap.lt_size e)) ?_) hS' hacc⟩
  exact (Heap.get?_update_other _ _ (Nat.ne_of_gt (Heap.lt_size e))).trans (Heap.get?_push_of_some _ e)
end
def rListStr : List V → Hp → VK → Prop := fun xs H Q => ∃ x : Str, xs = [.str x] ∧ x.length ≤ sizeLine ∧ ∀ l, H l = none → Q (.ref l) (upd H l (.lst (x.cps.toList.map fun c => V.str ⟨#[c]⟩)))
theorem vals_signs {x : Str} {acc : Array Value} (h : ItemsOf (SignAt x) acc x.cps.size) : Vals (x.cps.toList.map fun c => V.str ⟨#[c]⟩) acc.toList := by
  have main : ∀ (cs : List Nat) (vs : List Value), vs.length = cs.length → (∀ (i : Nat) (v : Value) (c : Nat), vs[i]? = some v → cs[i]? = some c → ∃ u, v = .str ⟨#[c]⟩ u) → Vals (cs.map fun c => V.str ⟨#[c]⟩) vs := by
    intro cs
    induction cs with
    | nil =>
      intro vs l _
      cases vs with
      | nil => exact .nil
      | cons _ _ => exact nomatch l
    | cons c cs ih =>
      intro vs l k
      cases vs with
      | nil => exact nomatch l
      | cons v vs =>
        obtain ⟨u, e⟩ := k 0 v c rfl rfl
        exact .cons ⟨u, e⟩ (ih vs (Nat.succ.inj l) fun i v' c' e1 e2 => k (i + 1) v' c' e1 e2)
  refine main x.cps.toList acc.toList (by rw [Array.length_toList, h.1]; simp) fun i v c e1 e2 => ?_
  obtain ⟨c', u, e3, e4⟩ := h.2 i v (by rw [← Array.getElem?_toList]; exact e1)
  rw [← Array.getElem?_toList] at e3
  rw [e2] at e3
  cases e3
  exact ⟨u, e4⟩
theorem call_listStr {X : Cx} (hc : X.calm = true) : CallR X (.type "list") rListStr := by
  intro pins s σ H xs us Q I r h
  obtain ⟨x, rfl, hz, q⟩ := h
  obtain ⟨u, rfl, rx⟩ := vals1 r
  obtain ⟨t, rfl⟩ := rx
  have hz' : x.cps.size ≤ sizeLine := hz
  refine text_list (I.ok.hd hc) hz' fun h' tk acc' c' kp e items => ?_
  refine ⟨.ref s.heap.objs.size, _, I.laid (t' := tk) kp (Nat.le_refl _) (show ObjOk X.prog X.w _ h' _ (.lst (x.cps.toList.map fun c => V.str ⟨#[c]⟩)) from ⟨?_, acc'.toList, c', vals_signs items, ?_⟩), rfl, q _ (I.hok.fresh (Nat.le_refl _))⟩
  · rw [List.length_map, Array.length_toList]
    exact hz'
  · simpa using e
def rListA (K : PySem.W.Frag) : List V → Hp → VK → Prop := fun xs H Q => (∃ p ys, xs = [.ref p] ∧ (SqL K H p ys ∨ SqT K H p ys) ∧ ∀ l, H l = none → Q (.ref l) (upd H l (.lst ys))) ∨ rListStr xs H Q
theorem call_listA {X : Cx} (hc : X.calm = true) : CallR X (.type "list") (rListA X.K) := CallR.or call_list_of (call_listStr hc)
section
variable {K : PySem.W.Frag}
theorem cd_listL {xs : List PyData} : CaD (rListA K) [.list xs] (· = .list xs) := fun F H vs Q tr a q => by
  cases a with
  | cons h1 h2 =>
    cases h2
    cases h1 with
    | @lst p ys _ _ h3 h4 => exact .inl ⟨p, ys, rfl, .inl (.inl (.inl h3)), fun l hl => q _ (.list xs) _ (Gr.new hl) (.lst (fun m => tr l m hl) upd_same (h4.gr (Gr.new hl))) rfl⟩
theorem cd_listT {xs : List PyData} : CaD (rListA K) [.tuple xs] (· = .list xs) := fun F H vs Q tr a q => by
  cases a with
  | cons h1 h2 =>
    cases h2
    cases h1 with
    | @tup p ys _ _ h3 h4 => exact .inl ⟨p, ys, rfl, .inr h3.seq, fun l hl => q _ (.list xs) _ (Gr.new hl) (.lst (fun m => tr l m hl) upd_same (h4.gr (Gr.new hl))) rfl⟩
theorem das_signs {F : List Addr} {H : Hp} : ∀ cs : List Nat, Das F H (cs.map fun c => V.str ⟨#[c]⟩) (cs.map fun c => PyData.str ⟨#[c]⟩)
  | [] => .nil
  | c :: cs => .cons (.str _) (das_signs cs)
theorem cd_listS {x : Str} (z : x.length ≤ 100000) : CaD (rListA K) [.str x] (· = .list (signs x)) := fun F H vs Q tr a q => by
  cases a with
  | cons h1 h2 =>
    cases h2
    cases h1
    exact .inr ⟨x, rfl, Nat.le_trans z (by decide), fun l hl => q _ (.list (signs x)) _ (Gr.new hl) (.lst (fun m => tr l m hl) upd_same (das_signs _)) rfl⟩
theorem od_neL {d e : PyData} (h1 : Shp d) (h2 : Shp e) : OpD (rNeA K) d e (· = .bool (!PyData.eqv d e)) := od_neA h1 h2
end
end Gd

/-! more of tuples: t[::-1] of two, t.count(x), tuple(list); join -/
namespace Gd
open PySem PySem.Spec PyProof.Rows L2
section
variable {prog : Program} {w : World} {A : Around} {E : Value → Shared → Prop} {s : Shared}
theorem getItem_rev2 {t sl : Addr} {x y vl vu vs : Value} {Q : Value → Shared → Prop} (ht : IsTup s.heap t #[x, y]) (hs : s.heap.IsSliceOf sl vl vu vs)
    (pl : IsPart vl none) (pu : IsPart vu none) (ps : IsPart vs (some (-1)))
    (h : Q (.ref s.heap.objs.size) { s with heap := s.heap.push { cls := .type "tuple", data := .seq #[y, x] } }) : wpAny (model prog w) A (getItem (.ref t) (.ref sl)) Q E s := by
  obtain ⟨os, hos, hcs, hds⟩ := id hs
  have hTs : s.TypeIs (.ref sl) "slice" := ⟨os, hos, hcs⟩
  unfold getItem
  try with_reducible refine wpAny_holding ?_
  first | refine wpAny_bind (wpAny_pure ?_) | skip
  refine wpAny_bind (wpAny_sequenceKey ht.typeIs (by decide) ?_)
  refine wpAny_bind (wpAny_callSpecial?_slot (name := Str.ofString "__getitem__") ht.typeIs PyProof.Rows.slot_tuple_getitem
    (wpAny_call_entry PyProof.Rows.slot_tuple_getitem ht.typeIs entry_tuple_getitem ?_ (args_tuple_getitem _ _)))
  show wpAny _ _ (Builtin.Tuple.tupleItemsOf (.ref t) >>= _) _ _ s
  refine wpAny_bind (tupleItemsOf_ ht ?_)
  refine wpAny_bind (wpAny_typeOf hTs ?_)
  rw [if_pos (by decide)]
  have ap : ∀ {R : Int × Int × Nat → Shared → Prop}, R (1, -1, 2) s → wpAny (model prog w) A.in1 (Builtin.Slice.sliceApplied (.ref sl) (pure (2 : Int))) R E s := fun {R} r => by
    unfold Builtin.Slice.sliceApplied Builtin.Slice.sliceFields
    refine wpAny_bind (wpAny_bind (wpAny_field hos hds (x := vl) rfl (wpAny_bind (wpAny_field hos hds (x := vu) rfl (wpAny_bind (wpAny_field hos hds (x := vs) rfl (wpAny_pure ?_)))))))
    refine wpAny_bind (HT.slicePart_ ps ?_)
    show wpAny _ _ (if ((-1 : Int) == 0) = true then _ else _) _ _ s
    rw [if_neg (by decide)]
    refine wpAny_bind (HT.slicePart_ pl (wpAny_bind (HT.slicePart_ pu (wpAny_bind (wpAny_pure ?_)))))
    exact wpAny_pure r
  refine wpAny_bind (ap ?_)
  show wpAny _ _ (if (((1 : Int)) == 0 && (-1 : Int) == 1 && (2 : Nat) == 2) = true then _ else _) _ _ s
  rw [if_neg (by decide)]
  have htake : sizeOk (.seq #[y, x]) := by
    show (2 : Nat) ≤ sizeLine
    have := sizeLine_eq
    omega
  first
    | exact wpAny_bind (m := Builtin.Tuple.tupleExact _) (wpAny_newObj_type (wpAny_pure ⟨_, rfl, wpAny_pure h⟩) htake)
    | exact wpAny_bind (m := Builtin.Tuple.tupleExact _) (wpAny_newObj_type (wpAny_bind (wpAny_pure (wpAny_pure ⟨_, rfl, wpAny_pure h⟩))) htake)
    | exact wpAny_bind (wpAny_bind (m := Builtin.Tuple.tupleExact _) (wpAny_newObj_type (wpAny_pure (wpAny_pure ⟨_, rfl, wpAny_pure h⟩)) htake))
    | exact wpAny_bind (wpAny_bind (m := Builtin.Tuple.tupleExact _) (wpAny_newObj_type (wpAny_pure ⟨_, rfl, wpAny_pure h⟩) htake))
end
/-! t[::-1] of two -/
def tRevA (te : TE) : TE := fun σ H Q => te σ H fun v H1 => ∃ a x y, v = .ref a ∧ TupAt H1 a [x, y] ∧ ∀ (p : Addr) (o : Obj), H1 p = none → o.dict = none → Q (.ref p) (upd H1 p (.frz o (.tup [y, x])))
section
variable {X : Cx}
theorem pe_revA {e : Expr} {te : TE} {k : Nat} {p1 p2 p3 pos : Pos} (he : PE X e te) : PE X (.Subscript e (.Slice none none (some (.UnaryOp .USub (.Constant (.int 1) k p1) p2)) p3) pos) (tRevA te) := by
  refine ⟨fun pins s σ H Q I h => Subscript_ (thn (he.run pins s σ H _ I h) fun v s1 ⟨x, H1, I1, r1, a, y0, y1, ex, hx, q⟩ => ?_)⟩
  subst ex
  obtain rfl : v = Value.ref a := r1
  have hst : PO X (some (.UnaryOp .USub (.Constant (.int 1) k p1) p2)) (tPart (tUn (rU fun i => .int (-i)) (tC (.int 1)))) := po_some (pe_un un_neg pe_int)
  refine wpAny_Slice (thn (po_none.run pins s1 σ H1 (fun o G => o = none ∧ G = H1) I1 ⟨rfl, rfl⟩) fun vl s2 ⟨l, G2, I2, pl, el, e2⟩ => ?_)
  subst el e2
  refine thn (po_none.run pins s2 σ G2 (fun o G => o = none ∧ G = G2) I2 ⟨rfl, rfl⟩) fun vu s3 ⟨u, G3, I3, pu, eu, e3⟩ => ?_
  subst eu e3
  refine thn (hst.run pins s3 σ G3 (fun o G => o = some (-1) ∧ G = G3) I3 ⟨1, rfl, -1, rfl, rfl, rfl⟩) fun vs s4 ⟨o, G4, I4, ps, eo, e4⟩ => ?_
  subst eo e4
  have I5 : Inv X pins σ G4 { s4 with heap := s4.heap.push { cls := .type "slice", data := .fields #[vl, vu, vs] } } := I4.kept (t' := s4.toks) fun b ob q => Heap.get?_push_of_some _ q
  obtain ⟨its, r, ht, hz⟩ := I5.tuple hx.seq
  cases r with
  | @cons _ u0 _ us0 r0 rt =>
    cases rt with
    | @cons _ u1 _ us1 r1 rt =>
      cases rt
      show wpAny (model X.prog X.w) X.A (subscriptTail e (.Slice none none (some (.UnaryOp .USub (.Constant (.int 1) k p1) p2)) p3) (.ref a) (.ref s4.heap.objs.size)) (EP X pins σ Q) X.xe { s4 with heap := s4.heap.push { cls := .type "slice", data := .fields #[vl, vu, vs] } }
      refine tail_any (ops := [.ref a, .ref s4.heap.objs.size]) ht.typeIs (PyProof.Rows.slot_tuple_getitem.lookup) ?_ (by with_unfolding_all rfl)
      refine getItem_rev2 (x := u0) (y := u1) ht (Heap.IsSliceOf.new _ vl vu vs) pl pu ps ?_
      refine ⟨.ref _, _, I5.laid (t' := s4.toks) (o := .frz { cls := .type "tuple", data := .seq #[u1, u0] } (.tup [y1, y0])) (fun b ob q => Heap.get?_push_of_some _ q) (Nat.le_refl _) ?_, rfl, q _ _ (I5.hok.fresh (Nat.le_refl _)) rfl⟩
      exact ⟨Heap.get?_push_size _ rfl, by show 2 ≤ sizeLine; decide, [u1, u0], .cons r1 (.cons r0 .nil), ⟨_, Heap.get?_push_size _ rfl, rfl, _, rfl⟩⟩
theorem ek_revA {Hi : List Hp} {F : List Addr} {B : Bag} {ab : List Ab} {te : TE} {d e : PyData} (h : Ek Hi F B ab te (.tuple [d, e])) : Ek Hi F B ab (tRevA te) (.tuple [e, d]) := fun σ H Q s l q =>
  h σ H _ s l fun v d1 H1 c1 s1 a1 p1 => by
    subst p1
    cases a1 with
    | @tup a xs _ n1 h1 k1 =>
      cases k1 with
      | @cons z1 _ _ _ b1 k2 =>
        cases k2 with
        | @cons z2 _ _ _ b2 k3 =>
          cases k3
          refine ⟨a, z1, z2, rfl, h1, fun p o hp ho => ?_⟩
          have g : Gr [] H1 (upd H1 p (.frz o (.tup [z2, z1]))) := Gr.new hp
          exact q _ (.tuple [e, d]) _ (c1.trans (ch_of g)) (s1.same g) (.tup (s1.nF hp) ⟨o, ho, upd_same⟩ (.cons (b2.gr (Gr.new hp)) (.cons (b1.gr (Gr.new hp)) .nil))) rfl
/-! methods of tuples made here -/
def tBMT (r : V → List V → Hp → VK → Prop) (to : TE) (t : TA) : TE := fun σ H Q => to σ H fun x H1 => (∃ a ys, x = .ref a ∧ TupAt H1 a ys) ∧ t σ H1 fun xs H2 => r x xs H2 Q
variable {o e : Expr} {es : List Expr} {to : TE} {t : TA} {name : Str} {apos cpos : Pos} {id : String} {r : V → List V → Hp → VK → Prop}
theorem pe_bmT (pa : PlainAttrs "tuple") (slot : Slot "tuple" name id) (hty : typeOf (.builtin id) = pure (.type "method_descriptor")) (hm : MtR X id r) (ho : PE X o to) (ha : PA X (e :: es) t)
    (hbase : attributeBase o name X.env (eval o X.env) = eval o X.env := by rfl)
    (hfew : ((backTo cpos (starEach (e :: es) X.env)).all (fun x => !x.1) && (backToKw cpos (keywordEach [] X.env)).all (fun x => x.1.isSome) && decide ((e :: es).length + ([] : List Keyword).length + (if ([] : List Keyword).isEmpty then 0 else 1) < 30)) = true := by rfl)
    (hline : (apos.endLine == cpos.line) = true := by rfl) (hs : starEach (e :: es) X.env = (false, eval e X.env) :: starEach es X.env := by rfl) (hpl : (backTo cpos (starEach es X.env)).any (·.1) = false := by rfl) :
    PE X (.Call (.Attribute o name apos) (e :: es) [] cpos) (tBMT r to t) := by
  refine ⟨fun pins s σ H Q I h => wpAny_Call_method_late hbase hfew hline rfl (thn (ho.run pins s σ H _ I h) fun v s1 ⟨x, H1, I1, r1, ⟨a, ys, ex, hx⟩, q1⟩ => ?_)⟩
  subst ex
  obtain rfl : v = Value.ref a := r1
  obtain ⟨o1, od, eo⟩ := hx
  have ok := I1.hok a _ eo
  obtain ⟨g, z, us, rv, ht⟩ := ok
  refine ⟨"tuple", id, pa, slot, hty, ht.typeIs, fun b eb => ?_, ?_⟩
  · cases eb
    exact ⟨o1, g, od⟩
  have hA := ha.run cpos pins s1 σ H1 _ I1 q1
  rw [hs] at hA ⊢
  refine Calls.callWith_builtin (by show (false || (backTo cpos (starEach es X.env)).any (·.1)) = false; rw [hpl] <;> rfl) (Calls.evalArgs_plain ?_)
  exact thn hA fun us s2 ⟨vs, H2, I2, r2, q2⟩ => hm pins s2 σ H2 (.ref a) vs (.ref a) us Q I2 (show RelV (V.ref a) (Value.ref a) from rfl) r2 q2
def rCountT : V → List V → Hp → VK → Prop := fun x vs H Q => ∃ F ds d v, Da F H x (.tuple ds) ∧ vs = [v] ∧ Da F H v d ∧ PyData.plainAll ds = true ∧ d.plain = true ∧ PyData.depthAll ds ≤ 60 ∧ Q (.int ((ds.countP fun y => PyData.eqv y d : Nat) : Int)) H
theorem mt_countT (hu : X.A.units + 64 < cLine) : MtR X "tuple.count" rCountT := by
  intro pins s σ H x xs v us Q I rx rs h
  obtain ⟨F, ds, d, y, hd, rfl, hy, p1, p2, p3, q⟩ := h
  cases rs with
  | @cons _ u _ _ r1 r2 =>
    cases r2
    obtain ⟨bs, ry, _⟩ := Da.reads I d y u hy r1
    cases hd with
    | @tup a zs _ nf ha hb =>
      obtain rfl : v = Value.ref a := rx
      obtain ⟨its, rv, pl, _⟩ := I.tuple ha.seq
      obtain ⟨as, hr, _⟩ := Das.reads I ds zs its hb rv
      obtain ⟨ob, ho, hc, n, hdt⟩ := pl
      refine SeqAt.count_tuple_data (xs := ds) (vs := its.toArray) (as := as) (bs := bs) (d := d) ⟨ob, ho, hc, n, hdt⟩ (by simpa using hr) ry p1 p2 (by omega) ⟨.int _, H, I.kept (t' := s.toks + 1) fun _ _ e => e, ⟨_, rfl⟩, q⟩
theorem call_tupleX : CallR X (.type "tuple") (fun xs H Q => ∃ p ys, xs = [.ref p] ∧ H p = some (.lst ys) ∧ ∀ l (o : Obj), H l = none → o.dict = none → Q (.ref l) (upd H l (.frz o (.tup ys)))) := by
  intro pins s σ H xs us Q I r h
  obtain ⟨p, ys, rfl, hq, q⟩ := h
  obtain ⟨u, rfl, rx⟩ := vals1 r
  obtain rfl : u = Value.ref p := rx
  obtain ⟨its, r', pl, hz⟩ := I.list (.inl (.inl hq))
  have hlen := r'.length
  refine call_tuple_list pl.isList (fun h' kp => ?_) (by simp only [List.size_toArray] <;> omega)
  have I1 : Inv X pins σ H { s with heap := h' } := I.kept (t' := s.toks) kp
  refine ⟨.ref h'.objs.size, _, I1.laid (t' := s.toks) (o := .frz { cls := .type "tuple", data := .seq its.toArray } (.tup ys)) (fun b ob q => Heap.get?_push_of_some _ q) (Nat.le_refl _) ?_, rfl, q _ _ (I1.hok.fresh (Nat.le_refl _)) rfl⟩
  exact ⟨Heap.get?_push_size _ rfl, hz, its, r', ⟨_, Heap.get?_push_size _ rfl, rfl, _, rfl⟩⟩
end
section
variable {Hi : List Hp} {F : List Addr} {B : Bag} {ab : List Ab} {to : TE} {ta : TA} {ds : List PyData} {d : PyData}
theorem ek_countT (h1 : Ek Hi F B ab to (.tuple ds)) (h2 : Eks Hi F B ab ta [d]) (p1 : PyData.plainAll ds = true) (p2 : d.plain = true) (p3 : PyData.depthAll ds ≤ 60) : Ek Hi F B ab (tBMT rCountT to ta) (.int ((ds.countP fun y => PyData.eqv y d : Nat) : Int)) := fun σ H Q s l q =>
  h1 σ H _ s l fun x d1 H1 c1 s1 a1 e1 => by
    subst e1
    refine ⟨?_, h2 σ H1 _ s1 (l.gr (Ch.wide c1 s)) fun vs ds2 H2 c2 s2 a2 e2 => ?_⟩
    · cases a1 with
      | @tup a xs _ n1 k1 k2 => exact ⟨a, xs, rfl, k1⟩
    · subst e2
      cases a2 with
      | cons b1 b2 =>
        cases b2
        exact ⟨F, ds, d, _, a1.gr (Ch.wide c2 s1), rfl, b1, p1, p2, p3, q _ _ H2 (c1.trans c2) s2 (.int _) rfl⟩
theorem cd_tupleL {xs : List PyData} : CaD (fun xs H Q => ∃ p ys, xs = [.ref p] ∧ H p = some (.lst ys) ∧ ∀ l (o : Obj), H l = none → o.dict = none → Q (.ref l) (upd H l (.frz o (.tup ys)))) [.list xs] (· = .tuple xs) := fun F H vs Q tr a q => by
  cases a with
  | cons h1 h2 =>
    cases h2
    cases h1 with
    | @lst p ys _ _ h3 h4 => exact ⟨p, ys, rfl, h3, fun l o hl ho => q _ (.tuple xs) _ (Gr.new hl) (.tup (fun m => tr l m hl) ⟨o, ho, upd_same⟩ (h4.gr (Gr.new hl))) rfl⟩
end
end Gd

/-! slices, several targets, functions of data -/
namespace Gd
open PySem PySem.Spec PyProof.Rows L2
section
variable {Hi : List Hp} {F : List Addr} {B : Bag} {ab : List Ab} {K : PySem.W.Frag} {te : TE} {tas : TA} {d : PyData} {ds : List PyData} {D : Ends}
/-- a slice's part -/
def Ep (Hi : List Hp) (F : List Addr) (B : Bag) (ab : List Ab) (tp : TO) (o : Option Int) : Prop := ∀ (σ : L2.St) (H : Hp) (Q : Option Int → Hp → Prop), St Hi F B H → Sl F B H σ ab →
  (∀ H', Ch B H H' → St Hi F B H' → Q o H') → tp σ H Q
theorem ep_none : Ep Hi F B ab tNoPart none := fun σ H Q s l q => q H (Gr.refl _ H) s
theorem ep_some {i : Int} (h : Ek Hi F B ab te (.int i)) : Ep Hi F B ab (tPart te) (some i) := fun σ H Q s l q => h σ H _ s l fun v d H1 c1 s1 a1 e => by
  subst e
  cases a1
  exact ⟨i, rfl, q H1 c1 s1⟩
def cutD {α : Type} (xs : List α) (lo hi : Option Int) : List α := (xs.drop (HT.sIx xs.length 0 lo)).take (HT.sIx xs.length xs.length hi - HT.sIx xs.length 0 lo)
theorem Das.cut {H : Hp} {vs : List V} (h : Das F H vs ds) (lo hi : Option Int) : Das F H (cutV vs lo hi) (cutD ds lo hi) := by
  unfold cutV cutD
  rw [h.length]
  exact (h.drop _).take _
theorem ek_slT {tl th : TO} {lo hi : Option Int} (h : Ek Hi F B ab te (.tuple ds)) (h1 : Ep Hi F B ab tl lo) (h2 : Ep Hi F B ab th hi) : Ek Hi F B ab (tSl (rSlAll K) te tl th) (.tuple (cutD ds lo hi)) := fun σ H Q s l q =>
  h σ H _ s l fun v d H1 c1 s1 a1 p1 => h1 σ H1 _ s1 (l.gr (Ch.wide c1 s)) fun H2 c2 s2 => h2 σ H2 _ s2 (l.gr (Ch.wide (c1.trans c2) s)) fun H3 c3 s3 => by
    subst p1
    have a3 := (a1.gr (Ch.wide c2 s1)).gr (Ch.wide c3 s2)
    have c := c1.trans (c2.trans c3)
    cases a3 with
    | @tup a xs _ nf hx kx =>
      refine .inr (.inr ⟨a, xs, rfl, hx.seq, fun z => ?_, fun _ p o hp ho => ?_⟩)
      · refine q _ (.tuple (cutD ds lo hi)) H3 c s3 (.tup nf hx ?_) rfl
        have e : cutV xs lo hi = xs := by
          unfold cutV
          rw [z.1, z.2, List.drop_zero, Nat.sub_zero, List.take_length]
        have := kx.cut lo hi
        rw [e] at this
        exact this
      · have g : Gr [] H3 (upd H3 p (.frz o (.tup (cutV xs lo hi)))) := Gr.new hp
        exact q _ (.tuple (cutD ds lo hi)) _ (c.trans (ch_of g)) (s3.same g) (.tup (s3.nF hp) ⟨o, ho, upd_same⟩ ((kx.cut lo hi).gr (Gr.new hp))) rfl
theorem ek_slL {tl th : TO} {lo hi : Option Int} (h : Ek Hi F B ab te (.list ds)) (h1 : Ep Hi F B ab tl lo) (h2 : Ep Hi F B ab th hi) : Ek Hi F B ab (tSl (rSlAll K) te tl th) (.list (cutD ds lo hi)) := fun σ H Q s l q =>
  h σ H _ s l fun v d H1 c1 s1 a1 p1 => h1 σ H1 _ s1 (l.gr (Ch.wide c1 s)) fun H2 c2 s2 => h2 σ H2 _ s2 (l.gr (Ch.wide (c1.trans c2) s)) fun H3 c3 s3 => by
    subst p1
    have a3 := (a1.gr (Ch.wide c2 s1)).gr (Ch.wide c3 s2)
    have c := c1.trans (c2.trans c3)
    cases a3 with
    | @lst a xs _ nf hx kx =>
      refine .inl ⟨a, xs, rfl, .inl (.inl hx), fun p hp => ?_⟩
      have g : Gr [] H3 (upd H3 p (.lst (cutV xs lo hi))) := Gr.new hp
      exact q _ (.list (cutD ds lo hi)) _ (c.trans (ch_of g)) (s3.same g) (.lst (s3.nF hp) upd_same ((kx.cut lo hi).gr (Gr.new hp))) rfl
theorem ek_slS {tl th : TO} {lo hi : Option Int} {x : Str} (h : Ek Hi F B ab te (.str x)) (z : x.length ≤ 100000) (h1 : Ep Hi F B ab tl lo) (h2 : Ep Hi F B ab th hi) : Ek Hi F B ab (tSl (rSlAll K) te tl th) (.str (cutS x lo hi)) := fun σ H Q s l q =>
  h σ H _ s l fun v d H1 c1 s1 a1 p1 => h1 σ H1 _ s1 (l.gr (Ch.wide c1 s)) fun H2 c2 s2 => h2 σ H2 _ s2 (l.gr (Ch.wide (c1.trans c2) s)) fun H3 c3 s3 => by
    subst p1
    cases a1
    exact .inr (.inl ⟨x, rfl, Nat.le_trans z (by decide), q _ _ H3 (c1.trans (c2.trans c3)) s3 (.str _) rfl⟩)
/-- x, y = e;  x, y, z = e -/
theorem ok_asg2 {i j : Nat} {d e : PyData} (h : Ek Hi F B ab te (.tuple [d, e])) (k : OkK Hi F B D.nx ((ab.set i (.dat d)).set j (.dat e))) : Ok Hi F B (tAsg te (gTup K 2 (gCons (gName i) (gCons (gName j) gNil)))) D ab := fun σ H s l =>
  h σ H _ s l fun v w H1 c1 s1 a1 p => by
    subst p
    cases a1 with
    | @tup a xs _ nf hx kx =>
      cases kx with
      | cons b1 kx =>
        cases kx with
        | cons b2 kx =>
          cases kx
          exact ⟨a, _, rfl, hx.seq, rfl, _, _, rfl, _, _, rfl, rfl, k _ H1 s1 (Sl.set (a := .dat _) (Sl.set (a := .dat _) (l.gr (Ch.wide c1 s)) ⟨_, rfl, b1⟩) ⟨_, rfl, b2⟩)⟩
theorem ok_asg3 {i j m : Nat} {d e f : PyData} (h : Ek Hi F B ab te (.tuple [d, e, f])) (k : OkK Hi F B D.nx (((ab.set i (.dat d)).set j (.dat e)).set m (.dat f))) : Ok Hi F B (tAsg te (gTup K 3 (gCons (gName i) (gCons (gName j) (gCons (gName m) gNil))))) D ab := fun σ H s l =>
  h σ H _ s l fun v w H1 c1 s1 a1 p => by
    subst p
    cases a1 with
    | @tup a xs _ nf hx kx =>
      cases kx with
      | cons b1 kx =>
        cases kx with
        | cons b2 kx =>
          cases kx with
          | cons b3 kx =>
            cases kx
            exact ⟨a, _, rfl, hx.seq, rfl, _, _, rfl, _, _, rfl, _, _, rfl, rfl, k _ H1 s1 (Sl.set (a := .dat _) (Sl.set (a := .dat _) (Sl.set (a := .dat _) (l.gr (Ch.wide c1 s)) ⟨_, rfl, b1⟩) ⟨_, rfl, b2⟩) ⟨_, rfl, b3⟩)⟩
theorem ek_cb {r : List V → Hp → VK → Prop} {z : PyData} (h : Eks Hi F B ab tas ds) (hr : CaD r ds (· = z)) : Ek Hi F B ab (tCB r tas) z := ev_cb h fun ds' e => e ▸ hr
/-- a def that is a function of one value -/
def Fun1 (ok : PyData → Prop) (f : PyData → PyData) : Sp := SpP (fun ds => ∃ d, ds = [d] ∧ ok d) (fun ds r => ∃ d, ds = [d] ∧ r = f d)
theorem ek_fun1 {ok : PyData → Prop} {f : PyData → PyData} {E : XK} (h : Ek Hi F B ab te d) (o : ok d) : Ek Hi F B ab (tCall (Fun1 ok f) [] E (tCons te tNil)) (f d) :=
  ev_callP (eks_cons h evs_nil) (fun ds e => ⟨d, e, o⟩) fun ds r e ⟨d', e', q⟩ => by
    rw [e] at e'
    cases e'
    exact q
theorem ek_if {t : TT} {ta tb : TE} {c : Bool} {d e : PyData} (h : EkT Hi F B ab t c) (h1 : c = true → Ek Hi F B ab ta d) (h2 : c = false → Ek Hi F B ab tb e) : Ek Hi F B ab (tIf t ta tb) (if c then d else e) := fun σ H Q s l q => h σ H _ s l fun k H1 c1 s1 p => by
  subst p
  cases k with
  | true => exact iteT (h1 rfl σ H1 _ s1 (l.gr (Ch.wide c1 s)) fun k2 d2 H2 c2 s2 a2 p2 => q k2 d2 H2 (c1.trans c2) s2 a2 p2)
  | false => exact iteF (h2 rfl σ H1 _ s1 (l.gr (Ch.wide c1 s)) fun k2 d2 H2 c2 s2 a2 p2 => q k2 d2 H2 (c1.trans c2) s2 a2 p2)
end
end Gd

/-! texts times a number, dict displays, join -/
namespace Gd
open PySem PySem.Spec PyProof.Rows L2
/-- x * n of a text of one sign -/
def repS (x : Str) (n : Int) : Str := if n < 1 then Str.empty else if (n == 1 || x.length == 0) = true then x else ⟨(List.replicate n.toNat x.cps).foldl (· ++ ·) #[]⟩
def rRepS : R2 := fun x y H Q => ∃ (z : Str) (n : Int), x = .str z ∧ y = .int n ∧ z.length = 1 ∧ 0 ≤ n ∧ n ≤ 100 ∧ Q (.str (repS z n)) H
theorem fold_cat (x : Array Nat) : ∀ (n : Nat) (a : Array Nat), ((List.replicate n x).foldl (· ++ ·) a).size = a.size + n * x.size
  | 0, a => by simp
  | n + 1, a => by
    rw [List.replicate_succ, List.foldl_cons, fold_cat x n, Array.size_append, Nat.add_mul]
    omega
theorem op_repS {X : Cx} : OpR X (binaryOp .Mult) rRepS := by
  intro pins s σ H x y v u Q I rx ry h
  obtain ⟨z, n, rfl, rfl, hz, n0, n1, q⟩ := h
  obtain ⟨t, rfl⟩ := rx
  obtain ⟨t2, rfl⟩ := ry
  refine P.mul_str ?_ (fun _ _ => ?_) (fun _ _ => ?_) ?_
  · rw [decide_eq_false (by omega), decide_eq_false (by omega)]
    rfl
  · have h1 : (1 : Int) ≤ n := by omega
    have : (2 : Int) ≤ (2 ^ 63 - 1) / n := by
      rw [Int.le_ediv_iff_mul_le (by omega)]
      omega
    rw [hz]
    omega
  · have e : z.length * n.toNat ≤ 100 := by rw [hz]; omega
    show decide (_ > sizeLine) = false
    have := sizeLine_eq
    exact decide_eq_false (by omega)
  · unfold repS at q
    by_cases h1 : n < 1
    · rw [if_pos h1] at q ⊢
      exact ⟨by decide, ⟨.str Str.empty, H, I.tok _, ⟨_, rfl⟩, q⟩⟩
    · rw [if_neg h1] at q ⊢
      by_cases h2 : (n == 1 || z.length == 0) = true
      · rw [if_pos h2] at q ⊢
        exact ⟨.str z, H, I, ⟨_, rfl⟩, q⟩
      · rw [if_neg h2] at q ⊢
        refine ⟨?_, ⟨.str _, H, I.tok _, ⟨_, rfl⟩, q⟩⟩
        show (((List.replicate n.toNat z.cps).foldl (· ++ ·) #[]).size) ≤ sizeLine
        rw [fold_cat]
        have e : z.cps.size = 1 := hz
        have := sizeLine_eq
        rw [e]
        simp
        omega
section
variable {Hi : List Hp} {F : List Addr} {B : Bag} {ab : List Ab} {K : PySem.W.Frag} {te tf : TE} {tas : TA}
theorem od_repS {z : Str} {n : Int} (hz : z.length = 1) (n0 : 0 ≤ n) (n1 : n ≤ 100) : OpD rRepS (.str z) (.int n) (· = .str (repS z n)) := fun F H x y Q _ a1 a2 q => by
  cases a1
  cases a2
  exact ⟨z, n, rfl, rfl, hz, n0, n1, q _ _ H (Gr.refl _ H) (.str _) rfl⟩
theorem ek_neg {i : Int} (h : Ek Hi F B ab te (.int i)) : Ek Hi F B ab (tUn (rU fun i => .int (-i)) te) (.int (-i)) := fun σ H Q s l q => h σ H _ s l fun v d H1 c1 s1 a1 e => by
  subst e
  cases a1
  exact ⟨i, rfl, q _ _ H1 c1 s1 (.int _) rfl⟩
theorem ek_dnew : Ek Hi F B ab tDNewK (.dict []) := fun σ H Q s l q p hp => by
  have g : Gr [] H (upd H p (.dK [])) := Gr.new hp
  exact q _ (.dict []) _ (ch_of g) (s.same g) (.dct (s.nF hp) upd_same rfl .nil) rfl
theorem St.none {H H' : Hp} {p : Addr} (s : St Hi F B H) (n : H p = none) : (∀ A ∈ Hi, A p = none) := fun A m => by
  cases e : A p with
  | none => rfl
  | some o =>
    have h := s.ch A m p o (fun z => ?_) e
    · rw [n] at h
      cases h
    · exact absurd n (s.tr p (ob_sub s p z))
theorem ek_disp1 {x : Str} {i : Int} (h1 : Ek Hi F B ab te (.str x)) (h2 : Ek Hi F B ab tf (.int i)) : Ek Hi F B ab (tDisp [(te, tf)]) (.dict [(.str x, .int i)]) := fun σ H Q s l q p hp => by
  have g : Gr [] H (upd H p (.dK [])) := Gr.new hp
  have s0 := s.same g
  have l0 : Sl F B (upd H p (.dK [])) σ ab := l.gr (g.wide fun _ z => nomatch z)
  have np : p ∉ ob B := fun z => s.tr p (ob_sub s p z) hp
  refine h1 σ _ _ s0 l0 fun v1 d1 H1 c1 s1 a1 e1 => h2 σ H1 _ s1 (l0.gr (Ch.wide c1 s0)) fun v2 d2 H2 c2 s2 a2 e2 => ?_
  subst e1 e2
  cases a1
  cases a2
  have e : H2 p = some (.dK []) := (c1.trans c2) p _ np upd_same
  refine ⟨e, [(.inr x, .int i)], rfl, (by show 1 ≤ 15; decide), ?_⟩
  show Q (.ref p) (upd H2 p (.dK [(.inr x, .int i)]))
  have sF : St Hi F B (upd H2 p (.dK [(.inr x, .int i)])) := by
    refine St.put (St.none (H' := H) s hp) (fun b l2 eb => ?_) s2
    obtain ⟨m1, m2, _, _⟩ := s.bag b l2 eb
    exact ⟨fun z => s.tr b m1 (z ▸ hp), fun z => s.tr l2 m2 (z ▸ hp)⟩
  refine q _ _ _ (fun a u na ea => ?_) sF (.dct (kvs := [(.inr x, .int i)]) (s.nF hp) upd_same rfl (.cons (.int i) .nil)) rfl
  have ne : a ≠ p := fun z => by
    rw [z, hp] at ea
    cases ea
  rw [upd_ne ne]
  refine (c1.trans c2) a u na ?_
  rw [upd_ne ne]
  exact ea
/-- sep.join([..]) -/
theorem das_strs {H : Hp} : ∀ {ys : List Str} {vs : List V}, Das F H vs (ys.map PyData.str) → vs = ys.map V.str
  | [], _, h => by
    cases h
    rfl
  | y :: ys, _, h => by
    cases h with
    | cons h1 h2 =>
      cases h1
      rw [das_strs h2]
      rfl
theorem ev_join {a : Str} {χ : List Str → Prop} (h1 : Ek Hi F B ab te (.str a)) (h2 : Evs Hi F B ab tas (fun ds => ∃ ys : List Str, ds = [.list (ys.map PyData.str)] ∧ χ ys)) (z : ∀ ys, χ ys → (ys.map (·.length)).sum + ys.length * a.length ≤ 16777216) :
    Ev Hi F B ab (tBM K "str" (fun x xs H Q => ∃ a p, ∃ ys : List Str, x = .str a ∧ xs = [.ref p] ∧ (SqL K H p (ys.map V.str) ∨ SqT K H p (ys.map V.str)) ∧ (ys.map (·.length)).sum + ys.length * a.length ≤ 16777216 ∧ Q (.str (Txt.join a ys)) H) te tas)
      (fun d => ∃ ys, d = .str (Txt.join a ys) ∧ χ ys) := fun σ H Q s l q =>
  h1 σ H _ s l fun x d1 H1 c1 s1 a1 e1 => by
    subst e1
    cases a1
    refine ⟨rfl, h2 σ H1 _ s1 (l.gr (Ch.wide c1 s)) fun vs ds H2 c2 s2 a2 ⟨ys, e2, hχ⟩ => ?_⟩
    subst e2
    cases a2 with
    | cons b1 b2 =>
      cases b2
      cases b1 with
      | @lst p us _ _ h3 h4 =>
        rw [das_strs h4] at h3
        exact ⟨a, p, ys, rfl, rfl, .inl (.inl (.inl h3)), z ys hχ, q _ _ H2 (c1.trans c2) s2 (.str _) ⟨ys, rfl, hχ⟩⟩
theorem joinL0 : ∀ ps : List (List Nat), TL.joinL [] ps = ps.flatten
  | [] => rfl
  | [p] => by simp [TL.joinL]
  | p :: q :: r => by
    show p ++ ([] ++ TL.joinL [] (q :: r)) = _
    rw [joinL0 (q :: r)]
    simp
theorem join0 (ys : List Str) : (Txt.join Str.empty ys).cps.toList = (ys.map fun y => y.cps.toList).flatten := by
  rw [TL.join_eq]
  have := TL.tl_join Str.empty ys
  rw [show (Str.join Str.empty ys).cps.toList = TL.joinL (TL.tl Str.empty) (ys.map TL.tl) from this]
  exact joinL0 _
end
end Gd

namespace K11
open PySem PySem.Spec PyProof.Rows L2 Gd
def top (i : Nat) : Stmt := PySem.Challenge.pw_barelybetter_k11_kinds.main.body.getD i (.Pass ⟨0, 0, 0, 0⟩)
structure Txt (mg : Str → Option Value) : Prop where
  b_int : mg "int" = none
  b_abs : mg "abs" = none
  b_len : mg "len" = none
  b_repr : mg "repr" = none
  b_isinstance : mg "isinstance" = none
  b_list : mg "list" = none
  b_tuple : mg "tuple" = none
  b_str : mg "str" = none
  b_bool : mg "bool" = none
  b_all : mg "all" = none
  b_range : mg "range" = none
  b_set : mg "set" = none
  b_sorted : mg "sorted" = none
  c_LONGEST_NAME : ∃ u, mg "LONGEST_NAME" = some u ∧ RelV (.int 8) u
section
variable {X : Cx}
def rIntA : List V → Hp → VK → Prop := fun xs H Q => (∃ i, xs = [.int i] ∧ Q (.int i) H) ∨ ∃ k, xs = [.bl k] ∧ Q (.int (if k then 1 else 0)) H
theorem call_intA : CallR X (.type "int") rIntA := call_int1
end
section
variable {P : Program} {w : World} {K : PySem.W.Frag} {mg : Str → Option Value} {base : Heap}
abbrev s_law_take : Stmt := top 25
theorem sc_law_take : FnScope ["_law_bag_here", "_law_many", "_law_early", "_law_second", "_law_cell", "_law_mixed", "_law_drawn"] ["_law_bag_here", "_law_many"] (defScope s_law_take) := ⟨rfl, rfl, rfl, by decide +kernel, rfl, by decide +kernel, by decide +kernel⟩
def preTake (ds : List PyData) : Prop := ∃ many : Int, ds = [.int many] ∧ 0 < many ∧ many < 1073741824
def postTake (ds : List PyData) (d : PyData) : Prop := ∃ many r : Int, ds = [.int many] ∧ d = .int r ∧ 0 ≤ r ∧ r < many
theorem eqv_int {i j : Int} : PyData.eqv (.int i) (.int j) = decide (i = j) := by
  simp [PyData.eqv]
  rfl
theorem bag_set {Hi : List Hp} {F : List Addr} {b l : Addr} {H : Hp} (s : St Hi F (some (b, l)) H) (n0 n1 n2 : Int) :
    St Hi F (some (b, l)) (upd H b (.lst [.int n0, .int n1, .int n2, .ref l])) := by
  obtain ⟨h1, h2, h3, m0, m1, m2, ns, hb, hl, hz⟩ := s.bag b l rfl
  refine s.to (Gr.at (by simp [ob])) fun b' l' e => ?_
  cases e
  exact ⟨n0, n1, n2, ns, upd_same, by rw [upd_ne (Ne.symm h3)]; exact hl, hz⟩
theorem first_cell (ns : List Int) (lo hi : Option Int) : ∃ c : Int, atI (cutV (ns.map V.int) lo hi ++ [V.int 0]) 0 = some (V.int c) := by
  have e : ∃ ms : List Int, cutV (ns.map V.int) lo hi = ms.map V.int := ⟨_, by unfold cutV; rw [← List.map_drop, ← List.map_take]⟩
  obtain ⟨ms, e⟩ := e
  rw [e]
  cases ms with
  | nil => exact ⟨0, rfl⟩
  | cons c r =>
    refine ⟨c, ?_⟩
    exact atI_nat (j := 0) rfl
theorem ok_take (X : K.In base) (G : base.Ns mainGlobals mg) (T : Txt mg) (D : DefAt K "_law_take" s_law_take) : CalG P w K mg base 1 "_law_take" (SpB preTake postTake) := by
  refine calG_of X G D sc_law_take (fun _ _ _ _ _ _ us hl => match us, hl with | [_, _], _ => rfl) (fun vs H Q E h => ?_) (fun f cdv A outer s H vs Q E ng hr h => ?_)
  · obtain ⟨F, b, l, ws, ds, rfl, s, a, ⟨m, rfl, _⟩, _⟩ := h
    cases a with
    | cons h1 h2 => cases h2; rfl
  · refine ⟨_, (C8.pss_cut (ps_if (pt_cmpR (op_eqA hr.units) (pe_ix ix_seq (pv 0) pe_int (fun _ _ => rfl)) pe_int (nomark _))
        (pss_cons (ps_set (i := 4) sc_law_take.nd rfl (Or.inl rfl) (pe_ix ix_seq (pe_op op_addA (pe_slice sl_all (pe_ix ix_seq (pv 0) pe_int (fun _ _ => rfl)) (po_some (pe_ix ix_seq (pv 0) pe_int (fun _ _ => rfl))) po_none) (pe_lst (pa_cons pe_int pa_nil))) pe_int (fun _ _ => rfl)))
        (pss_cons (ps_augS (pv 0) pe_int get_list pe_int ip_add set_list)
        (pss_cons (ps_asg (pe_op op_mulA (pv 4) (pe_callTy call_intA (by rfl) T.b_int (by decide +kernel) (pa_cons (pe_cmpR op_ge (pv 4) (pe_op op_pow pe_int pe_int) (nomark _)) pa_nil))) (pg_sub (pv 0) pe_int set_list))
        (pss_cons (ps_set (i := 5) sc_law_take.nd rfl (Or.inl rfl) (pe_op op_addA (pe_op op_addA (pe_op op_mulA (pe_ix ix_seq (pv 0) pe_int (fun _ _ => rfl)) pe_int) (pe_op op_mod (pe_callTy call_intA (by rfl) T.b_int (by decide +kernel) (pa_cons (pv 4) pa_nil)) pe_int)) (pe_op op_mulA pe_int (pe_ix ix_seq (pv 0) pe_int (fun _ _ => rfl)))))
        (pss_one (ps_asg (pe_op op_mod (pe_callTy call_intA (by rfl) T.b_int (by decide +kernel) (pa_cons (pv 5) pa_nil)) pe_int) (pg_sub (pv 0) pe_int set_list)))))))
        pss_nil)
      (pss_cons (ps_if (pt_cmpR op_gt (pe_ix ix_seq (pv 0) pe_int (fun _ _ => rfl)) pe_int (nomark _))
        (pss_cons (ps_asg (pe_tupX (pa_cons (pe_op op_mod (pe_callTy call_intA (by rfl) T.b_int (by decide +kernel) (pa_cons (pe_ix ix_seq (pv 0) pe_int (fun _ _ => rfl)) pa_nil)) (pv 1)) (pa_cons (pe_op op_fdiv (pe_callTy call_intA (by rfl) T.b_int (by decide +kernel) (pa_cons (pe_ix ix_seq (pv 0) pe_int (fun _ _ => rfl)) pa_nil)) (pv 1)) pa_nil))) (pg_tup rfl (pgs_cons (pg_name (i := 6) sc_law_take.nd rfl (Or.inl rfl)) (pgs_cons (pg_sub (pv 0) pe_int set_list) pgs_nil))))
        (pss_one (ps_ret (pv 6))))
        pss_nil)
      (pss_cons (ps_set (i := 2) sc_law_take.nd rfl (Or.inl rfl) (pe_op op_mod (pe_callTy call_intA (by rfl) T.b_int (by decide +kernel) (pa_cons (pe_op op_mulA (pe_op op_addA (pe_ix ix_seq (pv 0) pe_int (fun _ _ => rfl)) pe_int) pe_int) pa_nil)) pe_int))
      (pss_cons (ps_set (i := 3) sc_law_take.nd rfl (Or.inl rfl) (pe_op op_mod (pe_callTy call_intA (by rfl) T.b_int (by decide +kernel) (pa_cons (pe_op op_mulA (pe_op op_mod (pe_callTy call_intA (by rfl) T.b_int (by decide +kernel) (pa_cons (pe_op op_mulA (pv 2) (pv 2)) pa_nil)) pe_int) pe_int) pa_nil)) pe_int))
      (pss_one (ps_ret (pe_op op_mod (pe_callTy call_intA (by rfl) T.b_int (by decide +kernel) (pa_cons (pe_op op_fdiv (pv 3) pe_int) pa_nil)) (pv 1)))))))), ?_⟩
    obtain ⟨F, b, l, ws, ds, rfl, st, a, ⟨m, rfl, m0, m1⟩, q⟩ := h
    cases a with
    | cons a1 a2 =>
    cases a2
    cases a1
    have fin : ∀ (r : Int) (H' : Hp), 0 ≤ r → r < m → St [H] F (some (b, l)) H' → Q (.int r) H' := fun r H' r0 r1 s' =>
      q _ (.int r) H' s' (.int r) ⟨m, r, rfl, rfl, r0, r1⟩
    refine ⟨fun σ' H' => ∃ (o4 o5 : Option V), σ' = [some (.ref b), some (.int m), none, none, o4, o5, none] ∧ St [H] F (some (b, l)) H', ?_, ?_⟩
    · obtain ⟨bF, lF, bl, n0, n1, n2, ns, hb, hl, hz⟩ := st.bag b l rfl
      -- the first number is drawn anew, if it is spent
      refine ⟨_, rfl, .inl ⟨b, _, 0, .int n0, rfl, rfl, .inl (.inl hb), rfl, ?_⟩⟩
      refine .inl ⟨rfl, _, rfl, ?_⟩
      rw [show decide (V.int n0 = V.int 0) = decide (n0 = 0) by simp]
      refine ite2 (fun z => ?_) (fun z => ⟨none, none, rfl, st⟩)
      -- the cell
      refine ⟨_, rfl, .inl ⟨b, _, 3, .ref l, rfl, rfl, .inl (.inl hb), rfl, ?_⟩⟩
      refine ⟨_, rfl, .inl ⟨b, _, 2, .int n2, rfl, rfl, .inl (.inl hb), rfl, ?_⟩⟩
      refine ⟨n2, rfl, .inl ⟨l, ns.map V.int, rfl, .inl (.inl hl), fun p hp => ?_⟩⟩
      refine ⟨by show 1 ≤ sizeLine; decide, fun p2 hp2 => ?_⟩
      have np : p ≠ p2 := fun z => by
        rw [← z, upd_same] at hp2
        cases hp2
      obtain ⟨c, hc⟩ := first_cell ns (some n2) none
      refine .inr (.inr (.inl ⟨p, p2, _, _, rfl, rfl, by rw [upd_ne np]; exact upd_same, upd_same, ?_, fun p3 hp3 => ?_⟩))
      · have := cutV_length (ns.map V.int) (some n2) none
        rw [List.length_map] at this
        show _ + 1 ≤ sizeLine
        rw [sizeLine_eq]
        omega
      refine .inl ⟨p3, _, 0, .int c, rfl, rfl, .inl (.inl upd_same), hc, ?_⟩
      have g : Gr [] H _ := (Gr.new hp).trans ((Gr.new hp2).trans (Gr.new (o := .lst (cutV (ns.map V.int) (some n2) none ++ [V.int 0])) hp3))
      have hb3 := g b _ (by simp) hb
      have st3 := st.same g
      generalize upd (upd (upd H p _) p2 _) p3 _ = H3 at hb3 st3 ⊢
      refine ⟨_, rfl, b, _, 2, .int n2, rfl, rfl, hb3, by decide, rfl, n2, 1, rfl, rfl, b, _, 2, 2, rfl, rfl, hb3, rfl, ?_⟩
      have st4 : St [H] F (some (b, l)) (upd H3 b (.lst [.int n0, .int n1, .int (n2 + 1), .ref l])) := bag_set st3 _ _ _
      refine ⟨_, rfl, _, rfl, 10, 18, rfl, rfl, ⟨by decide, by decide, by decide⟩, _, _, rfl, rfl, .inr ⟨_, rfl, .inl ⟨_, _, rfl, rfl, .inr ?_, ?_⟩⟩⟩
      · split <;> decide
      refine ⟨_, rfl, b, _, 0, 0, rfl, rfl, upd_same, rfl, ?_⟩
      have st5 := bag_set st4 (c * (if decide ((10 : Int) ^ 18 ≤ c) = true then 1 else 0)) n1 (n2 + 1)
      refine ⟨_, rfl, .inl ⟨b, _, 1, .int n1, rfl, rfl, .inl (.inl upd_same), rfl, ?_⟩⟩
      refine .inl ⟨_, _, rfl, rfl, .inr ⟨by decide, by decide⟩, ?_⟩
      refine ⟨_, rfl, .inl ⟨c, rfl, _, _, rfl, rfl, (by show (0 : Int) < _; decide), .inl ⟨_, _, rfl, rfl, ?_⟩⟩⟩
      refine ⟨_, rfl, .inl ⟨b, _, 2, .int (n2 + 1), rfl, rfl, .inl (.inl upd_same), rfl, ?_⟩⟩
      refine .inl ⟨_, _, rfl, rfl, .inl ⟨by decide, by decide⟩, .inl ⟨_, _, rfl, rfl, ?_⟩⟩
      refine ⟨_, rfl, .inl ⟨_, rfl, _, _, rfl, rfl, (by show (0 : Int) < _; decide), _, rfl, b, _, 1, 1, rfl, rfl, upd_same, rfl, ?_⟩⟩
      exact ⟨_, _, rfl, bag_set st5 _ _ _⟩
    · rintro σ' H' ⟨o4, o5, rfl, s'⟩
      obtain ⟨bF, lF, bl, k0, k1, k2, ns, hb, hl, hz⟩ := s'.bag b l rfl
      refine ⟨_, rfl, .inl ⟨b, _, 0, .int k0, rfl, rfl, .inl (.inl hb), rfl, k0, 0, rfl, rfl, _, rfl, ?_⟩⟩
      refine ite2 (fun z => ?_) (fun z => ?_)
      · refine ⟨_, rfl, .inl ⟨b, _, 0, .int k0, rfl, rfl, .inl (.inl hb), rfl, .inl ⟨k0, rfl, _, rfl, _, _, rfl, rfl, m0, ?_⟩⟩⟩
        refine ⟨_, rfl, .inl ⟨b, _, 0, .int k0, rfl, rfl, .inl (.inl hb), rfl, .inl ⟨k0, rfl, _, rfl, _, _, rfl, rfl, ⟨m0, m1⟩, ?_⟩⟩⟩
        refine ⟨by show 2 ≤ sizeLine; decide, fun p o hp ho => ?_⟩
        have g : Gr [] H' _ := Gr.new (o := .frz o (.tup [.int (k0 % m), .int (k0 / m)])) hp
        have hb2 := g b _ (by simp) hb
        refine ⟨p, _, rfl, TupAt.seq ⟨o, ho, upd_same⟩, rfl, _, _, rfl, _, _, rfl, _, rfl, b, _, 0, 0, rfl, rfl, hb2, rfl, rfl, ?_⟩
        exact ⟨_, rfl, fin _ _ (Int.emod_nonneg _ (by omega)) (Int.emod_lt_of_pos _ m0) (bag_set (s'.same g) _ _ _)⟩
      · refine ⟨_, rfl, .inl ⟨b, _, 1, .int k1, rfl, rfl, .inl (.inl hb), rfl, ?_⟩⟩
        refine .inl ⟨_, _, rfl, rfl, .inl ⟨_, _, rfl, rfl, .inr ⟨by decide, by decide⟩, .inl ⟨_, rfl, _, _, rfl, rfl, (by show (0 : Int) < _; decide), ?_⟩⟩⟩
        have e0 := Int.emod_nonneg ((k1 + 1) * 39373) (b := 1000000007) (by decide)
        have e1 := Int.emod_lt_of_pos ((k1 + 1) * 39373) (b := 1000000007) (by decide)
        refine ⟨_, rfl, _, rfl, .inl ⟨_, _, rfl, rfl, .inl ⟨by omega, by omega⟩, .inl ⟨_, rfl, _, _, rfl, rfl, (by show (0 : Int) < _; decide), ?_⟩⟩⟩
        refine .inl ⟨_, _, rfl, rfl, .inr ⟨by decide, by decide⟩, .inl ⟨_, rfl, _, _, rfl, rfl, (by show (0 : Int) < _; decide), ?_⟩⟩
        refine ⟨_, rfl, _, _, rfl, rfl, ⟨by decide, by decide⟩, .inl ⟨_, rfl, _, rfl, _, _, rfl, rfl, m0, ?_⟩⟩
        exact fin _ _ (Int.emod_nonneg _ (by omega)) (Int.emod_lt_of_pos _ m0) s'
end
end K11

namespace K11
open PySem PySem.Spec PyProof.Rows L2 Gd
section
variable {P : Program} {w : World} {K : PySem.W.Frag} {mg : Str → Option Value} {base : Heap}
theorem ek_cb {Hi : List Hp} {F : List Addr} {B : Bag} {ab : List Ab} {tas : TA} {r : List V → Hp → VK → Prop} {ds : List PyData} {z : PyData} (h : Eks Hi F B ab tas ds) (hr : CaD r ds (· = z)) : Ek Hi F B ab (tCB r tas) z :=
  ev_cb h fun ds' e => e ▸ hr
/-! alike -/
abbrev s_law_alike : Stmt := top 26
theorem sc_law_alike : FnScope ["_law_found", "_law_due"] ["_law_found", "_law_due"] (defScope s_law_alike) := ⟨rfl, rfl, rfl, by decide +kernel, rfl, by decide +kernel, by decide +kernel⟩
def preAlike (ds : List PyData) : Prop := ∃ d e, ds = [d, e] ∧ Fine d ∧ Fine e ∧ d.hasDict = false ∧ e.hasDict = false
def postAlike (ds : List PyData) (r : PyData) : Prop := ∃ d e c, ds = [d, e] ∧ r = .bool c ∧ (d = e → c = true)
theorem ok_alike (X : K.In base) (G : base.Ns mainGlobals mg) (T : Txt mg) (D : DefAt K "_law_alike" s_law_alike) : CalG P w K mg base 1 "_law_alike" (SpP preAlike postAlike) := by
  refine calG_of X G D sc_law_alike (fun _ _ _ _ _ _ us hl => match us, hl with | [_, _], _ => rfl) (fun vs H Q E h => ?_) (fun f cdv A outer s H vs Q E ng hr h => ?_)
  · obtain ⟨F, ds, _, a, ⟨d, e, rfl, _⟩, _⟩ := h
    exact a.length
  · refine ⟨_, (pss_one (ps_ret (pe_and (pe_cmpR (op_eqA hr.units) (pv 0) (pv 1) (nomark _)) (pe_one (pe_cmpR (op_eqA hr.units) (pe_callB (call_repr ng hr.units) (by rfl) T.b_repr (by decide +kernel) (pa_cons (pv 0) pa_nil)) (pe_callB (call_repr ng hr.units) (by rfl) T.b_repr (by decide +kernel) (pa_cons (pv 1) pa_nil)) (nomark _)))))), ?_⟩
    refine pure_body h 0 fun F ds ⟨d, e, ed, f1, f2, n1, n2⟩ q => ?_
    subst ed
    refine ⟨rfl, ?_⟩
    have e1 : Ek [H] F none [.dat d, .dat e] (tVar 0) d := ev_var rfl
    have e2 : Ek [H] F none [.dat d, .dat e] (tVar 1) e := ev_var rfl
    have k1 := f1.shown (fun z => by rw [n1] at z; cases z)
    have k2 := f2.shown (fun z => by rw [n2] at z; cases z)
    refine ok_ret (ek_andV (ek_op e1 e2 (od_eqA (f1.shp n1) (f2.shp n2))) fun _ => ek_op (ek_cb (eks_cons e1 evs_nil) (cd_repr k1)) (ek_cb (eks_cons e2 evs_nil) (cd_repr k2)) od_eqS) fun v r H' s' a' p' => q v r H' s' a' ⟨d, e, _, rfl, p', fun z => ?_⟩
    subst z
    rw [SeqAt.eqv_refl d (SeqAt.canLay_of_shaped (f1.shp n1))]
    simp
/-! pick -/
abbrev s_law_pick : Stmt := top 27
theorem sc_law_pick : FnScope ["_law_bag_here", "_law_some"] ["_law_bag_here", "_law_some"] (defScope s_law_pick) := ⟨rfl, rfl, rfl, by decide +kernel, rfl, by decide +kernel, by decide +kernel⟩
def prePick (ds : List PyData) : Prop := ∃ xs, ds = [.list xs] ∧ xs ≠ [] ∧ xs.length ≤ 100000
def postPick (ds : List PyData) (r : PyData) : Prop := ∃ xs, ds = [.list xs] ∧ r ∈ xs
theorem atI_at {α : Type} {xs : List α} {r : Int} (h0 : 0 ≤ r) (h1 : r < xs.length) : ∃ z, atI xs r = some z ∧ z ∈ xs := by
  obtain ⟨k, rfl⟩ : ∃ k : Nat, r = k := ⟨r.toNat, by omega⟩
  have hk : k < xs.length := by omega
  exact ⟨xs[k], atI_nat (List.getElem?_eq_getElem hk), List.getElem_mem hk⟩
theorem ok_pick (X : K.In base) (G : base.Ns mainGlobals mg) (T : Txt mg) (D : DefAt K "_law_pick" s_law_pick) (c_law_take : CalG P w K mg base 1 "_law_take" (SpB preTake postTake)) : CalG P w K mg base 2 "_law_pick" (SpB prePick postPick) := by
  refine calG_of X G D sc_law_pick (fun _ _ _ _ _ _ us hl => match us, hl with | [_, _], _ => rfl) (fun vs H Q E h => ?_) (fun f cdv A outer s H vs Q E ng hr h => ?_)
  · obtain ⟨F, b, l, ws, ds, rfl, s, a, ⟨m, rfl, _⟩, _⟩ := h
    exact congrArg (· + 1) a.length
  · refine ⟨_, (pss_one (ps_ret (pe_ix ix_seq (pv 1) (pe_cg c_law_take ng hr (by decide) (pa_cons (pv 0) (pa_cons (pe_callB call_lenA (by rfl) T.b_len (by decide +kernel) (pa_cons (pv 1) pa_nil)) pa_nil))) (fun _ _ => rfl)))), ?_⟩
    refine bag_body h 0 fun F b l ds ⟨xs, ed, n, z⟩ q => ?_
    subst ed
    refine ⟨rfl, ?_⟩
    have n' : 0 < xs.length := List.length_pos_iff.mpr n
    have e1 : Ek [H] F (some (b, l)) [.bag, .dat (.list xs)] (tVar 1) (.list xs) := ev_var rfl
    have e2 : Eks [H] F (some (b, l)) [.bag, .dat (.list xs)] _ [.int xs.length] := eks_cons (ek_cb (eks_cons e1 evs_nil) (cd_lenL (K := K))) evs_nil
    have e3 : Ev [H] F (some (b, l)) [.bag, .dat (.list xs)] _ (fun d => ∃ r : Int, d = .int r ∧ 0 ≤ r ∧ r < xs.length) :=
      ev_callB (i := 0) (pre := preTake) (post := postTake) (E := E0) rfl e2 (fun ds e => ⟨xs.length, e, by omega, by omega⟩) (fun ds d e ⟨m, r, e', e3, r0, r1⟩ => by
        subst e
        cases e'
        exact ⟨r, e3, r0, r1⟩)
    refine ok_ret (ev_op (χ := fun d => d ∈ xs) e1 e3 fun d e p1 ⟨r, p2, r0, r1⟩ => ?_) fun v r H' s' a' p' => q v r H' s' a' ⟨xs, rfl, p'⟩
    subst p1 p2
    obtain ⟨zz, h1, h2⟩ := atI_at r0 r1
    intro F2 H2 x y Q2 tr a1 a2 q2
    exact od_ixL h1 F2 H2 x y Q2 tr a1 a2 fun v d H3 g a3 p3 => q2 v d H3 g a3 (p3 ▸ h2)
/-! mix -/
abbrev s_law_mix : Stmt := top 28
theorem sc_law_mix : FnScope ["_law_bag_here", "_law_some", "_law_rest", "_law_found"] ["_law_bag_here", "_law_some"] (defScope s_law_mix) := ⟨rfl, rfl, rfl, by decide +kernel, rfl, by decide +kernel, by decide +kernel⟩
def ShpL (xs : List PyData) : Prop := ∀ d ∈ xs, d.canLay0 = true ∧ d.depth ≤ 60
theorem canAll_of {xs : List PyData} (h : ∀ d ∈ xs, d.canLay0 = true) : PyData.canLayAll0 xs = true := by
  induction xs with
  | nil => rfl
  | cons x xs ih =>
    show (x.canLay0 && PyData.canLayAll0 xs) = true
    rw [h x List.mem_cons_self, ih fun d m => h d (List.mem_cons_of_mem _ m)]
    rfl
theorem depthAll_of {xs : List PyData} {n : Nat} (h : ∀ d ∈ xs, d.depth ≤ n) : PyData.depthAll xs ≤ n := by
  induction xs with
  | nil => exact Nat.zero_le _
  | cons x xs ih =>
    show max x.depth (PyData.depthAll xs) ≤ n
    exact Nat.max_le.mpr ⟨h x List.mem_cons_self, ih fun d m => h d (List.mem_cons_of_mem _ m)⟩
theorem ShpL.list {xs : List PyData} (h : ShpL xs) : Shp (.list xs) := by
  show (PyData.canLay0 (.list xs) && decide (PyData.depth (.list xs) ≤ 64)) = true
  have h1 : PyData.canLay0 (.list xs) = true := by
    simp only [PyData.canLay0]
    exact canAll_of fun d m => (h d m).1
  have h2 : PyData.depth (.list xs) ≤ 64 := by
    simp only [PyData.depth]
    have := depthAll_of fun d m => (h d m).2
    omega
  rw [h1, decide_eq_true h2]
  rfl
theorem eqv_nil {xs : List PyData} : PyData.eqv (.list xs) (.list []) = decide (xs = []) := by
  cases xs with
  | nil => simp [PyData.eqv, PyData.eqvAll]
  | cons x xs => simp [PyData.eqv, PyData.eqvAll]
def preMix (ds : List PyData) : Prop := ∃ xs, ds = [.list xs] ∧ ShpL xs ∧ xs.length ≤ 100000
def postMix (ds : List PyData) (r : PyData) : Prop := ∃ xs ys, ds = [.list xs] ∧ r = .list ys ∧ ys.Perm xs
theorem perm_erase {xs : List PyData} {k : Nat} {d : PyData} (h : xs[k]? = some d) : (d :: xs.eraseIdx k).Perm xs := by
  induction xs generalizing k with
  | nil => cases h
  | cons x xs ih =>
    cases k with
    | zero =>
      cases (show some x = some d from h)
      exact List.Perm.refl _
    | succ k => exact (List.Perm.swap _ _ _).trans ((ih (k := k) h).cons x)
theorem Das.erase {F : List Addr} {H : Hp} : ∀ {vs : List V} {ds : List PyData}, Das F H vs ds → ∀ k : Nat, Das F H (vs.eraseIdx k) (ds.eraseIdx k)
  | _, _, .nil, _ => .nil
  | _, _, .cons h t, 0 => t
  | _, _, .cons h t, k + 1 => .cons h (Das.erase t k)
theorem ok_mix (X : K.In base) (G : base.Ns mainGlobals mg) (T : Txt mg) (D : DefAt K "_law_mix" s_law_mix) (c_law_take : CalG P w K mg base 1 "_law_take" (SpB preTake postTake)) : CalG P w K mg base 2 "_law_mix" (SpB preMix postMix) := by
  refine calG_of X G D sc_law_mix (fun _ _ _ _ _ _ us hl => match us, hl with | [_, _], _ => rfl) (fun vs H Q E h => ?_) (fun f cdv A outer s H vs Q E ng hr h => ?_)
  · obtain ⟨F, b, l, ws, ds, rfl, s, a, ⟨m, rfl, _⟩, _⟩ := h
    exact congrArg (· + 1) a.length
  · refine ⟨_, (pss_cons (ps_par (i := 2) (j := 3) (by rfl) sc_law_mix.nd rfl rfl (by decide) rfl rfl (pa_cons (pe_callTy (call_listA rfl) (by rfl) T.b_list (by decide +kernel) (pa_cons (pv 1) pa_nil)) (pa_cons (pe_lst pa_nil) pa_nil)) (by rfl))
      (pss_cons (ps_while PassesOwn.never (pt_cmpR (op_neA hr.units) (pv 2) (pe_lst pa_nil) (nomark _))
        (pss_one (ps_expr (pe_bm PySem.F.plainAttrs_list PySem.F.slot_list_append PySem.F.type_list_append mt_append (pv 3) (pa_cons (pe_bm PySem.F.plainAttrs_list PySem.F.slot_list_pop PySem.F.type_list_pop mt_popAt (pv 2) (pa_cons (pe_cg c_law_take ng hr (by decide) (pa_cons (pv 0) (pa_cons (pe_callB call_lenA (by rfl) T.b_len (by decide +kernel) (pa_cons (pv 2) pa_nil)) pa_nil))) pa_nil)) pa_nil)))))
      (pss_one (ps_ret (pv 3))))), ?_⟩
    obtain ⟨F, b, l, ws, ds, rfl, st, a, ⟨xs, rfl, sh, z⟩, q⟩ := h
    cases a with
    | cons a1 a2 =>
    cases a2
    cases a1 with
    | @lst p vs _ nf h1 k1 =>
    refine ⟨_, rfl, .inl ⟨p, vs, rfl, .inl (.inl (.inl h1)), fun r hr0 => ?_⟩⟩
    refine ⟨Nat.zero_le _, fun f hf0 => ?_⟩
    refine ⟨_, _, rfl, ?_⟩
    have nrf : f ≠ r := fun e => by
      rw [e, upd_same] at hf0
      cases hf0
    have st1 : St [H] (r :: F) (some (b, l)) (upd H r (.lst vs)) := st.bar hr0
    have st2 : St [H] (f :: r :: F) (some (b, l)) (upd (upd H r (.lst vs)) f (.lst [])) := st1.bar hf0
    have g1 : Gr F H (upd H r (.lst vs)) := Gr.new hr0
    have g2 : Gr (r :: F) (upd H r (.lst vs)) (upd (upd H r (.lst vs)) f (.lst [])) := Gr.new hf0
    have kk : Das (f :: r :: F) (upd (upd H r (.lst vs)) f (.lst [])) vs xs := (((k1.bar hr0).gr (Gr.new hr0)).gr g2).less (fun _ m => m) |> fun t => by
      have t1 : Das (r :: F) (upd H r (.lst vs)) vs xs := (k1.bar hr0).gr (Gr.new hr0)
      exact (t1.bar hf0).gr (Gr.new hf0)
    refine while_by (fun σ' H' => ∃ rv fv rd fd, σ' = [some (.ref b), some (.ref p), some (.ref r), some (.ref f)] ∧ H' r = some (.lst rv) ∧ H' f = some (.lst fv) ∧
      Das (f :: r :: F) H' rv rd ∧ Das (f :: r :: F) H' fv fd ∧ (fd ++ rd).Perm xs ∧ St [H] (f :: r :: F) (some (b, l)) H')
      (fun σ' H' => match H' r with | some (.lst rv) => rv.length | _ => 0) ⟨vs, [], xs, [], rfl, by rw [upd_ne nrf.symm]; exact upd_same, upd_same, kk, .nil, List.Perm.refl _, st2⟩ ?_ ?_
    · rintro σ' H' ⟨rv, fv, rd, fd, rfl, er, ef, kr, kf, pm, s'⟩
      have shr : ShpL rd := fun d m => sh d (pm.subset (List.mem_append_right _ m))
      refine ⟨_, rfl, Nat.zero_le _, fun e he => ?_⟩
      have ge : Gr (f :: r :: F) H' (upd H' e (.lst [])) := Gr.new he
      have s2 : St [H] (f :: r :: F) (some (b, l)) (upd H' e (.lst [])) := s'.same (Gr.new he)
      have er2 : upd H' e (.lst []) r = some (.lst rv) := (Gr.new (F := []) he) r _ (by simp) er
      have ef2 : upd H' e (.lst []) f = some (.lst fv) := (Gr.new (F := []) he) f _ (by simp) ef
      have kr2 := kr.gr ge
      have kf2 := kf.gr ge
      refine .inr (.inl ⟨.list rd, .list [], .lst (.inl (.inl er2)) (kr2.dp (canAll_of fun d m => (shr d m).1)), .lst (.inl (.inl upd_same)) .nil, shr.list, rfl, _, rfl, ?_⟩)
      rw [eqv_nil]
      generalize upd H' e (.lst []) = H2 at *
      cases rd with
      | nil =>
        refine iteF ?_
        cases kr
        refine ⟨_, rfl, ?_⟩
        have sF : St [H] F (some (b, l)) H2 := st.free (st1.free s2)
        refine q _ (.list fd) H2 sF (.lst (fun m => st1.tr f (List.mem_cons_of_mem _ m) hf0) ef2 (kf2.less fun x m => List.mem_cons_of_mem _ (List.mem_cons_of_mem _ m))) ⟨xs, fd, rfl, rfl, by simpa using pm⟩
      | cons d0 rd =>
        refine iteT ?_
        have nbF : b ∈ F := (st.bag b l rfl).1
        have nlF : l ∈ F := (st.bag b l rfl).2.1
        have nrb : r ≠ b := fun e => st.tr b nbF (e ▸ hr0)
        have nrl : r ≠ l := fun e => st.tr l nlF (e ▸ hr0)
        have hfH : H f = none := by
          have e := hf0
          rw [upd_ne nrf] at e
          exact e
        have nfb : f ≠ b := fun e => st.tr b nbF (e ▸ hfH)
        have nfl : f ≠ l := fun e => st.tr l nlF (e ▸ hfH)
        have lz : (d0 :: rd).length ≤ 100000 := by
          have := pm.length_eq
          rw [List.length_append] at this
          omega
        have lf : fd.length ≤ 100000 := by
          have := pm.length_eq
          rw [List.length_append] at this
          omega
        have lr : rv.length = (d0 :: rd).length := kr2.length
        have lp : 0 < (d0 :: rd).length := Nat.succ_pos _
        refine ⟨_, rfl, .inl ⟨rfl, _, .inl (.inl ef2)⟩, _, rfl, .inl ⟨rfl, _, .inl (.inl er2)⟩, _, rfl, _, rfl, .inl ⟨r, rv, rfl, .inl (.inl (.inl er2)), ?_⟩⟩
        refine ⟨f :: r :: F, b, l, [.int rv.length], [.int rv.length], rfl, s2.anch, .cons (.int _) .nil, ⟨rv.length, rfl, by omega, by omega⟩, fun v d H3 s3 a3 ⟨m, i, e1, e2, i0, i1⟩ => ?_⟩
        cases e1
        subst e2
        cases a3
        have c3 := s3.ch H2 List.mem_cons_self
        have er3 : H3 r = some (.lst rv) := c3 r _ (by simpa [ob] using nrb) er2
        have ef3 : H3 f = some (.lst fv) := c3 f _ (by simpa [ob] using nfb) ef2
        have g3 : Gr (f :: r :: F) H2 H3 := Ch.wide c3 s2
        have kr3 := kr2.gr g3
        have kf3 := kf2.gr g3
        have hi : i.toNat < rv.length := by omega
        have ey := List.getElem?_eq_getElem hi
        obtain ⟨dy, ed, ky⟩ := kr3.get ey
        refine ⟨r, rv, i, i.toNat, _, rfl, rfl, er3, by omega, by omega, seqIndex_of i0 i1, ey, f, fv, _, rfl, rfl, by rw [upd_ne nrf]; exact ef3, ?_, ?_⟩
        · rw [kf3.length]
          exact Nat.lt_of_le_of_lt lf (by decide)
        have s3' : St [H] (f :: r :: F) (some (b, l)) H3 := s2.to c3 fun b' l' e => (s3.bag b' l' e).2.2.2
        have w1 : Gr (f :: r :: F) H3 (upd H3 r (.lst (rv.eraseIdx i.toNat))) := Gr.at (by simp)
        have w2 : Gr (f :: r :: F) (upd H3 r (.lst (rv.eraseIdx i.toNat))) (upd (upd H3 r (.lst (rv.eraseIdx i.toNat))) f (.lst (fv ++ [rv[i.toNat]]))) := Gr.at (by simp)
        have w := w1.trans w2
        have hr5 : upd (upd H3 r (.lst (rv.eraseIdx i.toNat))) f (.lst (fv ++ [rv[i.toNat]])) r = some (.lst (rv.eraseIdx i.toNat)) := by
          rw [upd_ne nrf.symm]
          exact upd_same
        refine ⟨⟨_, _, (d0 :: rd).eraseIdx i.toNat, fd ++ [dy], rfl, hr5, upd_same, Das.erase (kr3.gr w) _, (kf3.gr w).app (.cons (ky.gr w) .nil), ?_, ?_⟩, ?_⟩
        · rw [List.append_assoc]
          exact ((perm_erase ed).append_left fd).trans pm
        · refine St.put (fun A mA => ?_) (fun b' l' e => ?_) (St.put (fun A mA => ?_) (fun b' l' e => ?_) s3')
          · have e : A = H := by simpa using mA
            rw [e]
            exact hfH
          · cases e
            exact ⟨nfb.symm, nfl.symm⟩
          · have e : A = H := by simpa using mA
            rw [e]
            exact hr0
          · cases e
            exact ⟨nrb.symm, nrl.symm⟩
        · show (match upd (upd H3 r (.lst (rv.eraseIdx i.toNat))) f (.lst (fv ++ [rv[i.toNat]])) r with | some (.lst rv) => rv.length | _ => 0) < (match H' r with | some (.lst rv) => rv.length | _ => 0)
          rw [hr5, er]
          show (rv.eraseIdx i.toNat).length < rv.length
          rw [List.length_eraseIdx_of_lt hi]
          omega
    · rintro σ' H' Q1 Q2 hq ⟨v, e, z, k⟩
      refine ⟨v, e, z, fun e2 he2 => ?_⟩
      rcases k e2 he2 with ⟨h1, c, h2, h3⟩ | ⟨d, e3, h1, h2, h3, h4, c, h5, h6⟩ | ⟨a, b, xs, ys, h1, h2, h3, h4, h5, c, h6, h7⟩
      · exact .inl ⟨h1, c, h2, hq _ _ h3⟩
      · exact .inr (.inl ⟨d, e3, h1, h2, h3, h4, c, h5, hq _ _ h6⟩)
      · exact .inr (.inr ⟨a, b, xs, ys, h1, h2, h3, h4, h5, c, h6, hq _ _ h7⟩)
end
end K11

/-! what is a name, a pair, an answer: the program's words and the law's -/
namespace K11
open PySem PySem.Spec PyProof.Rows L2 Gd
def abc : Str := "abcdefghijklmnopqrstuvwxyz"
def letD : PyData → Bool
  | .str x => x.cps.toList.all fun c => decide (c ∈ abc.cps.toList)
  | _ => false
def nameB : PyData → Bool
  | .str x => (decide ((1 : Int) ≤ x.length) && decide ((x.length : Int) ≤ 8)) && x.cps.toList.all fun c => decide (c ∈ abc.cps.toList)
  | _ => false
def pairB : PyData → Bool
  | .tuple [a, b] => nameB a && (nameB b && !PyData.eqv a b)
  | _ => false
def answerB : PyData → Bool
  | .tuple [a, b, .bool _] => pairB (.tuple [a, b])
  | _ => false
def intB : PyData → Bool
  | .int _ => true
  | _ => false
def okP (d : PyData) : Prop := okd d = true
abbrev SpIs (f : PyData → Bool) : Sp := Fun1 okP fun d => .bool (f d)
theorem okP.str {x : Str} (h : okP (.str x)) : x.length ≤ 100 := by
  have h' := Bool.and_eq_true_iff.mp (show (x.cps.all (· < 1114112) && decide (x.length ≤ 100)) = true by simpa only [okP, okd] using h)
  simpa using h'.2
theorem okP.all {xs : List PyData} (h : okdAll xs = true) : ∀ d ∈ xs, okP d := by
  induction xs with
  | nil => exact fun d m => nomatch m
  | cons x xs ih =>
    have h' := Bool.and_eq_true_iff.mp (show (okd x && okdAll xs) = true by simpa only [okdAll] using h)
    intro d m
    rcases List.mem_cons.mp m with e | m
    · exact e ▸ h'.1
    · exact ih h'.2 d m
theorem okP.tup {xs : List PyData} (h : okP (.tuple xs)) : ∀ d ∈ xs, okP d := okP.all (by simpa only [okP, okd] using h)
theorem okAll_of {xs : List PyData} (h : ∀ d ∈ xs, okP d) : okdAll xs = true := by
  induction xs with
  | nil => rfl
  | cons x xs ih =>
    show (okd x && okdAll xs) = true
    rw [h x List.mem_cons_self, ih fun d m => h d (List.mem_cons_of_mem _ m)]
    rfl
theorem okP_tup {xs : List PyData} (h : ∀ d ∈ xs, okP d) : okP (.tuple xs) := by simpa only [okP, okd] using okAll_of h
section
variable {P : Program} {w : World} {K : PySem.W.Frag} {mg : Str → Option Value} {base : Heap}
theorem isi_str (d : PyData) : kitB (tyN d) "str" = some (match d with | .str _ => true | _ => false) := by cases d <;> rfl
theorem isi_tup (d : PyData) : kitB (tyN d) "tuple" = some (match d with | .tuple _ => true | _ => false) := by cases d <;> rfl
theorem isi_bool (d : PyData) : kitB (tyN d) "bool" = some (match d with | .bool _ => true | _ => false) := by cases d <;> rfl
theorem isi_int (d : PyData) : kitB (tyN d) "int" = some (match d with | .int _ => true | .bool _ => true | _ => false) := by cases d <;> rfl
theorem isi_list (d : PyData) : kitB (tyN d) "list" = some (match d with | .list _ => true | _ => false) := by cases d <;> rfl
theorem or_f {b : Bool} (h : (!true || !b) = true) : b = false := by cases b <;> first | rfl | exact nomatch h
theorem or_t {b : Bool} (h : (!true || !b) = false) : b = true := by cases b <;> first | rfl | exact nomatch h
/-! an instance in a value's place -/
structure BookC (K : PySem.W.Frag) (C : Addr) : Prop where
  ins : C8.InsC K C
  str : PySem.W.kitOne K (.ref C) (.type "str") = some false
  int : PySem.W.kitOne K (.ref C) (.type "int") = some false
  tup : PySem.W.kitOne K (.ref C) (.type "tuple") = some false
def InsV (C : Addr) (F : List Addr) : V → Hp → Prop := fun v H => ∃ a dx fs, v = .ref a ∧ a ∉ F ∧ H a = some (.ins C dx fs)
def SpIns (C : Addr) (r : PyData) : Sp := fun vs H Q _ => ∃ F v, (∀ p ∈ F, H p ≠ none) ∧ vs = [v] ∧ InsV C F v H ∧ ∀ v' d H', Gr [] H H' → Da F H' v' d → d = r → Q v' H'
def SpOr (a b : Sp) : Sp := fun vs H Q E => a vs H Q E ∨ b vs H Q E
abbrev SpIsO (C : Addr) (f : PyData → Bool) : Sp := SpOr (SpIs f) (SpIns C (.bool false))
theorem insV_gr (C : Addr) (F : List Addr) : Stab F (InsV C F) := fun v H H' g ⟨a, dx, fs, e, n, h⟩ => ⟨a, dx, fs, e, n, g a _ n h⟩
theorem ins_body {N : List Str} {t : TS} {vs : List V} {H : Hp} {Q : VK} {E : XK} {C : Addr} {r : PyData} (h : SpIns C r vs H Q E) (n : Nat) (e : N.length = 1 + n)
    (k : ∀ F, (∀ v d H', St [H] F none H' → Da F H' v d → d = r → Q v H') → Ok [H] F none t { nx := fun _ H' => Q .non H', rt := Q } (.obj (InsV C F) :: List.replicate n .any)) :
    t { nx := fun _ H' => Q .non H', rt := Q } (L2.start N vs) H := by
  obtain ⟨F, v, tr, rfl, iv, q⟩ := h
  refine k F (fun v d H' s a p => q v d H' (s.ch H List.mem_cons_self) a p) _ H ⟨fun A m => ?_, tr, fun b l z => (nomatch z)⟩ ⟨?_, fun i a o e1 e2 => ?_⟩
  · have e : A = H := by simpa using m
    rw [e]
    exact Gr.refl _ _
  · unfold L2.start
    simp
    omega
  · cases i with
    | zero =>
      cases (Option.some.inj e1)
      have e3 : (L2.start N [v])[0]? = some (some v) := rfl
      rw [e3] at e2
      cases (Option.some.inj e2)
      exact ⟨insV_gr C F, v, rfl, iv⟩
    | succ i =>
      have z : a = .any := by
        have e4 : (List.replicate n Ab.any)[i]? = some a := e1
        rw [List.getElem?_replicate] at e4
        split at e4
        · exact (Option.some.inj e4).symm
        · cases e4
      subst z
      trivial
theorem ek_isiO {K : PySem.W.Frag} {Hi : List Hp} {F : List Addr} {B : Bag} {ab : List Ab} {i : Nat} {n : String} {C : Addr} (bc : BookC K C) (h : ab[i]? = some (.obj (InsV C F))) (k : PySem.W.kitOne K (.ref C) (.type n) = some false) :
    Ek Hi F B ab (tCB (rIsi K) (tCons (tVar i) (tCons (tC (.ty n)) tNil))) (.bool false) := fun σ H Q s l q => by
  obtain ⟨v, e, a, dx, fs, rfl, _, ha⟩ := l.obj h
  exact ⟨_, e, .ref a, .ty n, .ref C, .type n, false, rfl, .ty n, .base (.ins ha bc.ins.cl bc.ins.ha bc.ins.hn bc.ins.htk bc.ins.hm), k, q _ _ H (Gr.refl _ H) s (.bl false) rfl⟩
theorem ek_isL {Hi : List Hp} {F : List Addr} {B : Bag} {ab : List Ab} {te : TE} {d : PyData} {E : XK} {b : Sp} (f : PyData → Bool) (h : Ek Hi F B ab te d) (o : okP d) : Ek Hi F B ab (tCall (SpOr (SpIs f) b) [] E (tCons te tNil)) (.bool (f d)) := fun σ H Q s l q =>
  eks_cons h evs_nil σ H _ s l fun vs ds H1 c1 s1 a1 p1 => by
    rw [List.append_nil]
    refine .inl ⟨F, ds, s1.tr, a1, ⟨d, p1, o⟩, fun v r H2 g a2 ⟨d', e', p2⟩ => q v r H2 (c1.trans (ch_of g)) (s1.same g) a2 ?_⟩
    rw [p1] at e'
    cases e'
    exact p2
theorem ek_isR {Hi : List Hp} {F : List Addr} {ab : List Ab} {i : Nat} {E : XK} {a : Sp} {C : Addr} {r : PyData} (h : ab[i]? = some (.obj (InsV C F))) : Ek Hi F none ab (tCall (SpOr a (SpIns C r)) [] E (tCons (tVar i) tNil)) r := fun σ H Q s l q => by
  obtain ⟨v, e, iv⟩ := l.obj h
  exact ⟨v, e, .inr ⟨F, v, s.tr, rfl, iv, fun v' d H' g a p => q v' d H' g (s.same g) a p⟩⟩
/-! is_integer -/
abbrev sis_integer : Stmt := top 3
theorem scis_integer : FnScope ["thing"] ["thing"] (defScope sis_integer) := ⟨rfl, rfl, rfl, by decide +kernel, rfl, by decide +kernel, by decide +kernel⟩
theorem fun1_body {N : List Str} {t : TS} {vs : List V} {H : Hp} {Q : VK} {E : XK} {ok : PyData → Prop} {f : PyData → PyData} (h : Fun1 ok f vs H Q E) (n : Nat) (e : N.length = 1 + n)
    (k : ∀ (F : List Addr) (d : PyData), ok d → (∀ v H', St [H] F none H' → Da F H' v (f d) → Q v H') → Ok [H] F none t { nx := fun _ H' => Q .non H', rt := Q } (absOf n [d])) :
    t { nx := fun _ H' => Q .non H', rt := Q } (L2.start N vs) H :=
  pure_body h n fun F ds ⟨d, e2, o⟩ q => by
    subst e2
    exact ⟨e, k F d o fun v H' s a => q v (f d) H' s a ⟨d, rfl, rfl⟩⟩
theorem fun1_len {ok : PyData → Prop} {f : PyData → PyData} {vs : List V} {H : Hp} {Q : VK} {E : XK} (h : Fun1 ok f vs H Q E) : vs.length = 1 := by
  obtain ⟨F, ds, _, a, ⟨d, rfl, _⟩, _⟩ := h
  exact a.length
theorem or_len {ok : PyData → Prop} {f : PyData → PyData} {C : Addr} {r : PyData} {vs : List V} {H : Hp} {Q : VK} {E : XK} (h : SpOr (Fun1 ok f) (SpIns C r) vs H Q E) : vs.length = 1 := by
  rcases h with h | ⟨_, v, _, rfl, _⟩
  · exact fun1_len h
  · rfl
theorem ok_is_integer (X : K.In base) (G : base.Ns mainGlobals mg) (T : Txt mg) {C : Addr} (bc : BookC K C) (D : DefAt K "is_integer" sis_integer) : CalG P w K mg base 1 "is_integer" (SpIsO C intB) := by
  refine calG_of X G D scis_integer (fun _ _ _ _ _ _ us hl => match us, hl with | [_], _ => rfl) (fun vs H Q E h => or_len h) (fun f cdv A outer s H vs Q E ng hr h => ?_)
  refine ⟨_, (pss_one (ps_ret (pe_and (pe_callB call_isi (by rfl) T.b_isinstance (by decide +kernel) (pa_cons (pv 0) (pa_cons (pe_bltn (v := .ty "int") (by rfl) T.b_int (by decide +kernel) rfl) pa_nil))) (pe_one (pe_not (pe_callB call_isi (by rfl) T.b_isinstance (by decide +kernel) (pa_cons (pv 0) (pa_cons (pe_bltn (v := .ty "bool") (by rfl) T.b_bool (by decide +kernel) rfl) pa_nil)))))))), ?_⟩
  rcases h with h | h
  rotate_left
  · exact ins_body h 0 rfl fun F q' => ok_ret (ek_andV (a := false) (b := false) (ek_isiO bc rfl bc.int) fun z => nomatch z) q'
  refine fun1_body h 0 rfl fun F d o q => ?_
  have e1 : Ek [H] F none (absOf 0 [d]) (tVar 0) d := ev_var rfl
  refine ok_ret (ek_andV (ek_isi e1 (isi_int d)) fun _ => ek_notV (ek_isi e1 (isi_bool d))) fun v r H' s' a' p' => q v H' s' ?_
  subst p'
  cases d <;> exact a'
/-! is_name -/
abbrev sis_name : Stmt := top 4
theorem scis_name : FnScope ["thing"] ["thing"] (defScope sis_name) := ⟨rfl, rfl, rfl, by decide +kernel, rfl, by decide +kernel, by decide +kernel⟩
theorem signs_all (x : Str) : (Gd.signs x).map (fun d => PyData.bool (letD d)) = (x.cps.toList.map fun c => decide (c ∈ abc.cps.toList)).map PyData.bool := by
  unfold Gd.signs
  rw [List.map_map, List.map_map]
  apply List.map_congr_left
  intro c _
  simp [letD]
theorem signs_at {x : Str} {k : Nat} {d : PyData} (h : (Gd.signs x)[k]? = some d) : ∃ c, d = .str ⟨#[c]⟩ := by
  unfold Gd.signs at h
  rw [List.getElem?_map] at h
  cases e : x.cps.toList[k]? with
  | none => rw [e] at h; cases h
  | some c => rw [e] at h; exact ⟨c, (Option.some.inj h).symm⟩
theorem ascii_tab : ∀ c : Fin 128, (Unicode.isAlpha c.val && !(Unicode.isUpper c.val || Unicode.isTitle c.val)) = decide (c.val ∈ abc.cps.toList) := by decide +kernel
theorem abc_tab : ∀ c ∈ abc.cps.toList, (decide (c < 128) && (Unicode.isAlpha c && (Unicode.isLower c && !(Unicode.isUpper c || Unicode.isTitle c)))) = true := by decide +kernel
theorem text_abc {x : Str} (z : 1 ≤ x.length) : (Txt.isascii x && (Txt.isalpha x && Txt.islower x)) = x.cps.toList.all fun c => decide (c ∈ abc.cps.toList) := by
  have zl : 0 < x.cps.toList.length := by
    have e : x.cps.toList.length = x.length := by simp [Str.length]
    omega
  obtain ⟨c0, m0⟩ := List.exists_mem_of_length_pos zl
  rw [Bool.eq_iff_iff]
  simp only [Txt.isascii, Txt.isalpha, Txt.islower, ← Array.all_toList, ← Array.any_toList, Bool.and_eq_true, Bool.not_eq_true', List.all_eq_true, List.any_eq_true, List.any_eq_false, decide_eq_true_eq, gt_iff_lt, Bool.not_eq_true]
  constructor
  · rintro ⟨h1, ⟨_, h2⟩, h3, h4⟩ c m
    have t := ascii_tab ⟨c, h1 c m⟩
    have a1 := h2 c m
    have a2 := h4 c m
    simp only [a1, a2, Bool.true_and, Bool.not_false] at t
    simpa using t.symm
  · intro h
    have q : ∀ c ∈ x.cps.toList, c < 128 ∧ Unicode.isAlpha c = true ∧ Unicode.isLower c = true ∧ (Unicode.isUpper c || Unicode.isTitle c) = false := fun c m => by
      have t := abc_tab c (h c m)
      simpa using t
    exact ⟨fun c m => (q c m).1, ⟨by omega, fun c m => (q c m).2.1⟩, ⟨c0, m0, (q c0 m0).2.2.1⟩, fun c m => (q c m).2.2.2⟩
theorem ek_m0 {Hi : List Hp} {F : List Addr} {B : Bag} {ab : List Ab} {te : TE} {x : Str} {g : Str → Bool} (h : Ek Hi F B ab te (.str x)) : Ek Hi F B ab (tM0 (fun x xs H Q => ∃ a, x = .str a ∧ xs = [] ∧ True ∧ Q (.bl (g a)) H) te) (.bool (g x)) := fun σ H Q s l q =>
  h σ H _ s l fun v d H1 c1 s1 a1 e => by
    subst e
    cases a1
    exact ⟨⟨x, rfl⟩, x, rfl, rfl, trivial, q _ _ H1 c1 s1 (.bl _) rfl⟩
theorem ok_is_name (X : K.In base) (G : base.Ns mainGlobals mg) (T : Txt mg) {C : Addr} (bc : BookC K C) (D : DefAt K "is_name" sis_name) : CalG P w K mg base 1 "is_name" (SpIsO C nameB) := by
  refine calG_of X G D scis_name (fun _ _ _ _ _ _ us hl => match us, hl with | [_], _ => rfl) (fun vs H Q E h => or_len h) (fun f cdv A outer s H vs Q E ng hr h => ?_)
  refine ⟨_, (pss_cons (ps_if (PW.pt (pw_or (pt_not (pt_val (pe_callB call_isi (by rfl) T.b_isinstance (by decide +kernel) (pa_cons (pv 0) (pa_cons (pe_bltn (v := .ty "str") (by rfl) T.b_str (by decide +kernel) rfl) pa_nil))))) (pw_or1 (pt_not (pt_chain op_le op_le pe_int (pe_callB call_lenA (by rfl) T.b_len (by decide +kernel) (pa_cons (pv 0) pa_nil)) (C8.pe_gc (by rfl) T.c_LONGEST_NAME))))))
        (pss_one (ps_ret pe_bl))
        pss_nil)
      (pss_one (ps_ret (pe_and (pe_m0 PySem.F.slot_str_isascii PySem.F.type_str_isascii mt_isascii (pv 0)) (pe_and (pe_m0 PySem.F.slot_str_isalpha PySem.F.type_str_isalpha mt_isalpha (pv 0)) (pe_one (pe_m0 PySem.F.slot_str_islower PySem.F.type_str_islower mt_islower (pv 0)))))))), ?_⟩
  rcases h with h | h
  rotate_left
  · exact ins_body h 0 rfl fun F q' => ok_seq (ok_ifK (c := true) (etk_or (a := true) (b := false) (etk_not (etk_B (ek_isiO bc rfl bc.str))) fun z => nomatch z) (fun z => ok_ret ev_bl q') fun z => nomatch z)
  refine fun1_body h 0 rfl fun F d o q => ?_
  have e1 : ∀ F, Ek [H] F none (absOf 0 [d]) (tVar 0) d := fun F => ev_var rfl
  have fin : ∀ b : Bool, b = nameB d → ∀ v r H', St [H] F none H' → Da F H' v r → r = .bool b → Q v H' := fun b e v r H' s' a' p' => q v H' s' (by rw [← e, ← p']; exact a')
  cases d with
  | str x =>
    have lx : x.length ≤ 100000 := Nat.le_trans o.str (by decide)
    refine ok_seq (ok_ifK (etk_or (a := !true) (etk_not (etk_B (ek_isi (e1 F) (isi_str _)))) fun _ => etk_not (etk_test (ek_chain ev_int (ek_cb (eks_cons (e1 F) evs_nil) (cd_lenS (K := K) lx)) ev_int od_B0 od_B0))) (fun z => ?_) fun z => ok_next ?_)
    · refine ok_ret ev_bl (fin false ?_)
      have z' : (decide ((1 : Int) ≤ x.length) && decide ((x.length : Int) ≤ 8)) = false := or_f z
      show false = (_ && _)
      rw [z']
      rfl
    · have z' : (decide ((1 : Int) ≤ x.length) && decide ((x.length : Int) ≤ 8)) = true := or_t z
      have z1 : 1 ≤ x.length := by
        have := of_decide_eq_true (Bool.and_eq_true_iff.mp z').1
        omega
      refine ok_ret (ek_andV (ek_m0 (e1 F)) fun _ => ek_andV (ek_m0 (e1 F)) fun _ => ek_m0 (e1 F)) (fin _ ?_)
      show _ = (_ && _)
      rw [z', Bool.true_and]
      exact text_abc z1
  | none | bool _ | int _ | list _ | tuple _ | dict _ =>
    refine ok_seq (ok_ifK (c := true) (etk_or (a := true) (b := false) (etk_not (etk_B (ek_isi (e1 F) (isi_str _)))) fun z => nomatch z) (fun z => ok_ret ev_bl (fin false rfl)) fun z => nomatch z)
theorem ek_is {Hi : List Hp} {F : List Addr} {B : Bag} {ab : List Ab} {te : TE} {d : PyData} {E : XK} (f : PyData → Bool) (h : Ek Hi F B ab te d) (o : okP d) : Ek Hi F B ab (tCall (SpIs f) [] E (tCons te tNil)) (.bool (f d)) := ek_fun1 (f := fun d => .bool (f d)) h o
/-! is_pair -/
abbrev sis_pair : Stmt := top 5
theorem scis_pair : FnScope ["thing"] ["thing"] (defScope sis_pair) := ⟨rfl, rfl, rfl, by decide +kernel, rfl, by decide +kernel, by decide +kernel⟩
theorem pairB_ne {xs : List PyData} (h : xs.length ≠ 2) : pairB (.tuple xs) = false := by
  match xs, h with
  | [], _ => rfl
  | [_], _ => rfl
  | [_, _], h => exact absurd rfl h
  | _ :: _ :: _ :: _, _ => rfl
theorem answerB_ne {xs : List PyData} (h : xs.length ≠ 3) : answerB (.tuple xs) = false := by
  match xs, h with
  | [], _ => rfl
  | [_], _ => rfl
  | [_, _], h => rfl
  | [_, _, _], h => exact absurd rfl h
  | _ :: _ :: _ :: _ :: _, _ => simp [answerB]
theorem nameB_str {d : PyData} (h : nameB d = true) : ∃ x, d = .str x := by
  cases d with
  | str x => exact ⟨x, rfl⟩
  | none | bool _ | int _ | list _ | tuple _ | dict _ => exact nomatch h
theorem eqv_str {x y : Str} : PyData.eqv (.str x) (.str y) = decide (x = y) := by
  simp [PyData.eqv]
  rfl
theorem od_neN {a b : PyData} (h1 : nameB a = true) (h2 : nameB b = true) : OpD (rNeA K) a b (· = .bool (!PyData.eqv a b)) := by
  obtain ⟨x, rfl⟩ := nameB_str h1
  obtain ⟨y, rfl⟩ := nameB_str h2
  rw [eqv_str]
  exact od_neS
theorem len_ne {n m : Nat} : (!decide ((n : Int) = (m : Int))) = !decide (n = m) := by
  by_cases h : n = m
  · rw [decide_eq_true h, decide_eq_true (by omega)]
  · rw [decide_eq_false h, decide_eq_false (by omega)]
theorem ok_is_pair (X : K.In base) (G : base.Ns mainGlobals mg) (T : Txt mg) {C : Addr} (bc : BookC K C) (D : DefAt K "is_pair" sis_pair) (cis_name : CalG P w K mg base 1 "is_name" (SpIsO C nameB)) : CalG P w K mg base 2 "is_pair" (SpIsO C pairB) := by
  refine calG_of X G D scis_pair (fun _ _ _ _ _ _ us hl => match us, hl with | [_], _ => rfl) (fun vs H Q E h => or_len h) (fun f cdv A outer s H vs Q E ng hr h => ?_)
  refine ⟨_, (pss_cons (ps_if (PW.pt (pw_or (pt_not (pt_val (pe_callB call_isi (by rfl) T.b_isinstance (by decide +kernel) (pa_cons (pv 0) (pa_cons (pe_bltn (v := .ty "tuple") (by rfl) T.b_tuple (by decide +kernel) rfl) pa_nil))))) (pw_or1 (pt_cmpR (op_neA hr.units) (pe_callB call_lenA (by rfl) T.b_len (by decide +kernel) (pa_cons (pv 0) pa_nil)) pe_int (nomark _)))))
        (pss_one (ps_ret pe_bl))
        pss_nil)
      (pss_one (ps_ret (pe_and (pe_cg cis_name ng hr (by decide) (pa_cons (pe_ix ix_seq (pv 0) pe_int (fun _ _ => rfl)) pa_nil)) (pe_and (pe_cg cis_name ng hr (by decide) (pa_cons (pe_ix ix_seq (pv 0) pe_int (fun _ _ => rfl)) pa_nil)) (pe_one (pe_cmpR (op_neA hr.units) (pe_ix ix_seq (pv 0) pe_int (fun _ _ => rfl)) (pe_ix ix_seq (pv 0) pe_int (fun _ _ => rfl)) (nomark _)))))))), ?_⟩
  rcases h with h | h
  rotate_left
  · exact ins_body h 0 rfl fun F q' => ok_seq (ok_ifK (c := true) (etk_or (a := true) (b := false) (etk_not (etk_B (ek_isiO bc rfl bc.tup))) fun z => nomatch z) (fun z => ok_ret ev_bl q') fun z => nomatch z)
  refine fun1_body h 0 rfl fun F d o q => ?_
  have e1 : Ek [H] F none (absOf 0 [d]) (tVar 0) d := ev_var rfl
  have fin : ∀ b : Bool, b = pairB d → ∀ v r H', St [H] F none H' → Da F H' v r → r = .bool b → Q v H' := fun b e v r H' s' a' p' => q v H' s' (by rw [← e, ← p']; exact a')
  cases d with
  | tuple xs =>
    refine ok_seq (ok_ifK (etk_or (a := !true) (etk_not (etk_B (ek_isi e1 (isi_tup _)))) fun _ => etk_test (ek_op (ek_cb (eks_cons e1 evs_nil) (cd_lenT (K := K))) ev_int od_neI)) (fun z => ?_) fun z => ok_next ?_)
    · refine ok_ret ev_bl (fin false ?_)
      have z' : xs.length ≠ 2 := by
        intro e
        rw [e] at z
        exact nomatch z
      rw [pairB_ne z']
    · match xs, z with
      | [a, b], z =>
        have i0 : Ek [H] F none (absOf 0 [.tuple [a, b]]) _ a := ek_op e1 ev_int (od_ixT (K := K) (atI_nat (j := 0) rfl))
        have i1 : Ek [H] F none (absOf 0 [.tuple [a, b]]) _ b := ek_op e1 ev_int (od_ixT (K := K) (atI_nat (j := 1) rfl))
        exact ok_ret (ek_andV (ek_isL nameB i0 (o.tup a (by simp))) fun n1 => ek_andV (ek_isL nameB i1 (o.tup b (by simp))) fun n2 => ek_op i0 i1 (od_neN n1 n2)) (fin _ rfl)
      | [], z => exact nomatch z
      | [_], z => exact nomatch z
      | _ :: _ :: _ :: r, z =>
        have : (r.length + 1 + 1 + 1 : Int) ≠ 2 := by omega
        simp at z
        omega
  | none | bool _ | int _ | list _ | str _ | dict _ =>
    refine ok_seq (ok_ifK (c := true) (etk_or (a := true) (b := false) (etk_not (etk_B (ek_isi e1 (isi_tup _)))) fun z => nomatch z) (fun z => ok_ret ev_bl (fin false rfl)) fun z => nomatch z)
/-! is_answer -/
abbrev sis_answer : Stmt := top 6
theorem scis_answer : FnScope ["thing"] ["thing"] (defScope sis_answer) := ⟨rfl, rfl, rfl, by decide +kernel, rfl, by decide +kernel, by decide +kernel⟩
theorem ok_is_answer (X : K.In base) (G : base.Ns mainGlobals mg) (T : Txt mg) {C : Addr} (bc : BookC K C) (D : DefAt K "is_answer" sis_answer) (cis_pair : CalG P w K mg base 2 "is_pair" (SpIsO C pairB)) : CalG P w K mg base 3 "is_answer" (SpIsO C answerB) := by
  refine calG_of X G D scis_answer (fun _ _ _ _ _ _ us hl => match us, hl with | [_], _ => rfl) (fun vs H Q E h => or_len h) (fun f cdv A outer s H vs Q E ng hr h => ?_)
  refine ⟨_, (pss_cons (ps_if (PW.pt (pw_or (pt_not (pt_val (pe_callB call_isi (by rfl) T.b_isinstance (by decide +kernel) (pa_cons (pv 0) (pa_cons (pe_bltn (v := .ty "tuple") (by rfl) T.b_tuple (by decide +kernel) rfl) pa_nil))))) (pw_or1 (pt_cmpR (op_neA hr.units) (pe_callB call_lenA (by rfl) T.b_len (by decide +kernel) (pa_cons (pv 0) pa_nil)) pe_int (nomark _)))))
        (pss_one (ps_ret pe_bl))
        pss_nil)
      (pss_one (ps_ret (pe_and (pe_cg cis_pair ng hr (by decide) (pa_cons (pe_slice sl_all (pv 0) po_none (po_some pe_int)) pa_nil)) (pe_one (pe_callB call_isi (by rfl) T.b_isinstance (by decide +kernel) (pa_cons (pe_ix ix_seq (pv 0) pe_int (fun _ _ => rfl)) (pa_cons (pe_bltn (v := .ty "bool") (by rfl) T.b_bool (by decide +kernel) rfl) pa_nil)))))))), ?_⟩
  rcases h with h | h
  rotate_left
  · exact ins_body h 0 rfl fun F q' => ok_seq (ok_ifK (c := true) (etk_or (a := true) (b := false) (etk_not (etk_B (ek_isiO bc rfl bc.tup))) fun z => nomatch z) (fun z => ok_ret ev_bl q') fun z => nomatch z)
  refine fun1_body h 0 rfl fun F d o q => ?_
  have e1 : Ek [H] F none (absOf 0 [d]) (tVar 0) d := ev_var rfl
  have fin : ∀ b : Bool, b = answerB d → ∀ v r H', St [H] F none H' → Da F H' v r → r = .bool b → Q v H' := fun b e v r H' s' a' p' => q v H' s' (by rw [← e, ← p']; exact a')
  cases d with
  | tuple xs =>
    refine ok_seq (ok_ifK (etk_or (a := !true) (etk_not (etk_B (ek_isi e1 (isi_tup _)))) fun _ => etk_test (ek_op (ek_cb (eks_cons e1 evs_nil) (cd_lenT (K := K))) ev_int od_neI)) (fun z => ?_) fun z => ok_next ?_)
    · refine ok_ret ev_bl (fin false ?_)
      have z' : xs.length ≠ 3 := by
        intro e
        rw [e] at z
        exact nomatch z
      rw [answerB_ne z']
    · match xs, z with
      | [a, b, c], z =>
        have i2 : Ek [H] F none (absOf 0 [.tuple [a, b, c]]) _ c := ek_op e1 ev_int (od_ixT (K := K) (atI_nat (j := 2) rfl))
        have i1 : Ek [H] F none (absOf 0 [.tuple [a, b, c]]) _ (.tuple [a, b]) := ek_slT (K := K) (ds := [a, b, c]) (lo := none) (hi := some 2) e1 ep_none (ep_some ev_int)
        refine ok_ret (D := { nx := fun _ H' => Q .non H', rt := Q }) (ek_andV (ek_isL pairB i1 (okP_tup fun d m => o.tup d (by revert m; simp; rintro (h | h) <;> simp [h]))) fun n1 => ek_isi i2 (isi_bool c)) (fin _ ?_)
        cases c <;> simp [answerB]
      | [], z => exact nomatch z
      | [_], z => exact nomatch z
      | [_, _], z => exact nomatch z
      | _ :: _ :: _ :: _ :: r, z =>
        simp at z
        omega
  | none | bool _ | int _ | list _ | str _ | dict _ =>
    refine ok_seq (ok_ifK (c := true) (etk_or (a := true) (b := false) (etk_not (etk_B (ek_isi e1 (isi_tup _)))) fun z => nomatch z) (fun z => ok_ret ev_bl (fin false rfl)) fun z => nomatch z)
end
end K11

/-! what an answer tells; the law's own reading of names, pairs, answers -/
namespace K11
open PySem PySem.Spec PyProof.Rows L2 Gd
def ansP (d : PyData) : Prop := ∃ a b c, d = .tuple [a, b, .bool c]
def pairD : PyData → PyData
  | .tuple [a, b, _] => .tuple [a, b]
  | _ => .none
def contD : PyData → PyData
  | .tuple [a, b, .bool c] => .tuple [a, b, .bool (!c)]
  | _ => .none
def mirrD : PyData → PyData
  | .tuple [a, b, .bool c] => .tuple [b, a, .bool c]
  | _ => .none
def endsD : PyData → PyData
  | .tuple [a, b, .bool c] => if c then .tuple [a, b] else .tuple [b, a]
  | _ => .none
section
variable {P : Program} {w : World} {K : PySem.W.Frag} {mg : Str → Option Value} {base : Heap}
abbrev spair_of : Stmt := top 10
theorem scpair_of : FnScope ["answer", "x", "y", "_"] ["answer"] (defScope spair_of) := ⟨rfl, rfl, rfl, by decide +kernel, rfl, by decide +kernel, by decide +kernel⟩
theorem ok_pair_of (X : K.In base) (G : base.Ns mainGlobals mg) (T : Txt mg) (D : DefAt K "pair_of" spair_of) : CalG P w K mg base 1 "pair_of" (Fun1 ansP pairD) := by
  refine calG_of X G D scpair_of (fun _ _ _ _ _ _ us hl => match us, hl with | [_], _ => rfl) (fun vs H Q E h => fun1_len h) (fun f cdv A outer s H vs Q E ng hr h => ?_)
  refine ⟨_, (pss_cons (ps_asg (pv 0) (pg_tup rfl (pgs_cons (pg_name (i := 1) scpair_of.nd rfl (Or.inl rfl)) (pgs_cons (pg_name (i := 2) scpair_of.nd rfl (Or.inl rfl)) (pgs_cons (pg_name (i := 3) scpair_of.nd rfl (Or.inl rfl)) pgs_nil)))))
      (pss_one (ps_ret (pe_tupX (pa_cons (pv 1) (pa_cons (pv 2) pa_nil)))))), fun1_body h 3 rfl fun F d ⟨a, b, c, e⟩ q => ?_⟩
  subst e
  have e1 : Ek [H] F none (absOf 3 [.tuple [a, b, .bool c]]) (tVar 0) (.tuple [a, b, .bool c]) := ev_var rfl
  refine ok_seq (ok_asg3 e1 (ok_ret (ek_tup (eks_cons (ev_var rfl) (eks_cons (ev_var rfl) evs_nil))) fun v r H' s' a' p' => q v H' s' (by subst p'; exact a')))
abbrev scontrary : Stmt := top 11
theorem sccontrary : FnScope ["answer", "x", "y", "truth"] ["answer"] (defScope scontrary) := ⟨rfl, rfl, rfl, by decide +kernel, rfl, by decide +kernel, by decide +kernel⟩
theorem ok_contrary (X : K.In base) (G : base.Ns mainGlobals mg) (T : Txt mg) (D : DefAt K "contrary" scontrary) : CalG P w K mg base 1 "contrary" (Fun1 ansP contD) := by
  refine calG_of X G D sccontrary (fun _ _ _ _ _ _ us hl => match us, hl with | [_], _ => rfl) (fun vs H Q E h => fun1_len h) (fun f cdv A outer s H vs Q E ng hr h => ?_)
  refine ⟨_, (pss_cons (ps_asg (pv 0) (pg_tup rfl (pgs_cons (pg_name (i := 1) sccontrary.nd rfl (Or.inl rfl)) (pgs_cons (pg_name (i := 2) sccontrary.nd rfl (Or.inl rfl)) (pgs_cons (pg_name (i := 3) sccontrary.nd rfl (Or.inl rfl)) pgs_nil)))))
      (pss_one (ps_ret (pe_tupX (pa_cons (pv 1) (pa_cons (pv 2) (pa_cons (pe_not (pv 3)) pa_nil))))))), fun1_body h 3 rfl fun F d ⟨a, b, c, e⟩ q => ?_⟩
  subst e
  have e1 : Ek [H] F none (absOf 3 [.tuple [a, b, .bool c]]) (tVar 0) (.tuple [a, b, .bool c]) := ev_var rfl
  refine ok_seq (ok_asg3 e1 (ok_ret (ek_tup (eks_cons (ev_var rfl) (eks_cons (ev_var rfl) (eks_cons (ek_notV (ev_var rfl)) evs_nil)))) fun v r H' s' a' p' => q v H' s' (by subst p'; exact a')))
abbrev smirrored : Stmt := top 12
theorem scmirrored : FnScope ["answer", "x", "y", "truth"] ["answer"] (defScope smirrored) := ⟨rfl, rfl, rfl, by decide +kernel, rfl, by decide +kernel, by decide +kernel⟩
theorem ok_mirrored (X : K.In base) (G : base.Ns mainGlobals mg) (T : Txt mg) (D : DefAt K "mirrored" smirrored) : CalG P w K mg base 1 "mirrored" (Fun1 ansP mirrD) := by
  refine calG_of X G D scmirrored (fun _ _ _ _ _ _ us hl => match us, hl with | [_], _ => rfl) (fun vs H Q E h => fun1_len h) (fun f cdv A outer s H vs Q E ng hr h => ?_)
  refine ⟨_, (pss_cons (ps_asg (pv 0) (pg_tup rfl (pgs_cons (pg_name (i := 1) scmirrored.nd rfl (Or.inl rfl)) (pgs_cons (pg_name (i := 2) scmirrored.nd rfl (Or.inl rfl)) (pgs_cons (pg_name (i := 3) scmirrored.nd rfl (Or.inl rfl)) pgs_nil)))))
      (pss_one (ps_ret (pe_tupX (pa_cons (pv 2) (pa_cons (pv 1) (pa_cons (pv 3) pa_nil))))))), fun1_body h 3 rfl fun F d ⟨a, b, c, e⟩ q => ?_⟩
  subst e
  have e1 : Ek [H] F none (absOf 3 [.tuple [a, b, .bool c]]) (tVar 0) (.tuple [a, b, .bool c]) := ev_var rfl
  refine ok_seq (ok_asg3 e1 (ok_ret (ek_tup (eks_cons (ev_var rfl) (eks_cons (ev_var rfl) (eks_cons (ev_var rfl) evs_nil)))) fun v r H' s' a' p' => q v H' s' (by subst p'; exact a')))
abbrev sends_of : Stmt := top 13
theorem scends_of : FnScope ["answer", "x", "y", "truth"] ["answer"] (defScope sends_of) := ⟨rfl, rfl, rfl, by decide +kernel, rfl, by decide +kernel, by decide +kernel⟩
theorem ok_ends_of (X : K.In base) (G : base.Ns mainGlobals mg) (T : Txt mg) (D : DefAt K "ends_of" sends_of) : CalG P w K mg base 1 "ends_of" (Fun1 ansP endsD) := by
  refine calG_of X G D scends_of (fun _ _ _ _ _ _ us hl => match us, hl with | [_], _ => rfl) (fun vs H Q E h => fun1_len h) (fun f cdv A outer s H vs Q E ng hr h => ?_)
  refine ⟨_, (pss_cons (ps_asg (pv 0) (pg_tup rfl (pgs_cons (pg_name (i := 1) scends_of.nd rfl (Or.inl rfl)) (pgs_cons (pg_name (i := 2) scends_of.nd rfl (Or.inl rfl)) (pgs_cons (pg_name (i := 3) scends_of.nd rfl (Or.inl rfl)) pgs_nil)))))
      (pss_cons (ps_if (pt_val (pv 3))
        (pss_one (ps_ret (pe_tupX (pa_cons (pv 1) (pa_cons (pv 2) pa_nil)))))
        pss_nil)
      (pss_one (ps_ret (pe_tupX (pa_cons (pv 2) (pa_cons (pv 1) pa_nil))))))), fun1_body h 3 rfl fun F d ⟨a, b, c, e⟩ q => ?_⟩
  subst e
  have e1 : Ek [H] F none (absOf 3 [.tuple [a, b, .bool c]]) (tVar 0) (.tuple [a, b, .bool c]) := ev_var rfl
  refine ok_seq (ok_asg3 e1 (ok_seq (ok_ifK (c := c) (etk_B (ev_var rfl)) (fun z => ?_) fun z => ok_next ?_)))
  · subst z
    exact ok_ret (ek_tup (eks_cons (ev_var rfl) (eks_cons (ev_var rfl) evs_nil))) fun v r H' s' a' p' => q v H' s' (by subst p'; exact a')
  · subst z
    exact ok_ret (ek_tup (eks_cons (ev_var rfl) (eks_cons (ev_var rfl) evs_nil))) fun v r H' s' a' p' => q v H' s' (by subst p'; exact a')
abbrev s_law_leads : Stmt := top 30
theorem sc_law_leads : FnScope ["_law_answer"] ["_law_answer"] (defScope s_law_leads) := ⟨rfl, rfl, rfl, by decide +kernel, rfl, by decide +kernel, by decide +kernel⟩
theorem ok_leads (X : K.In base) (G : base.Ns mainGlobals mg) (T : Txt mg) (D : DefAt K "_law_leads" s_law_leads) : CalG P w K mg base 1 "_law_leads" (Fun1 ansP endsD) := by
  refine calG_of X G D sc_law_leads (fun _ _ _ _ _ _ us hl => match us, hl with | [_], _ => rfl) (fun vs H Q E h => fun1_len h) (fun f cdv A outer s H vs Q E ng hr h => ?_)
  refine ⟨_, (pss_one (ps_ret (pe_ifExp (pt_val (pe_ix ix_seq (pv 0) pe_int (fun _ _ => rfl))) (pe_tupX (pa_cons (pe_ix ix_seq (pv 0) pe_int (fun _ _ => rfl)) (pa_cons (pe_ix ix_seq (pv 0) pe_int (fun _ _ => rfl)) pa_nil))) (pe_tupX (pa_cons (pe_ix ix_seq (pv 0) pe_int (fun _ _ => rfl)) (pa_cons (pe_ix ix_seq (pv 0) pe_int (fun _ _ => rfl)) pa_nil)))))), fun1_body h 0 rfl fun F d ⟨a, b, c, e⟩ q => ?_⟩
  subst e
  have e1 : Ek [H] F none (absOf 0 [.tuple [a, b, .bool c]]) (tVar 0) (.tuple [a, b, .bool c]) := ev_var rfl
  have i0 : Ek [H] F none (absOf 0 [.tuple [a, b, .bool c]]) _ a := ek_op e1 ev_int (od_ixT (K := K) (atI_nat (j := 0) rfl))
  have i1 : Ek [H] F none (absOf 0 [.tuple [a, b, .bool c]]) _ b := ek_op e1 ev_int (od_ixT (K := K) (atI_nat (j := 1) rfl))
  have i2 : Ek [H] F none (absOf 0 [.tuple [a, b, .bool c]]) _ (.bool c) := ek_op e1 ev_int (od_ixT (K := K) (atI_nat (j := 2) rfl))
  exact ok_ret (ek_if (etk_B i2) (fun _ => ek_tup (eks_cons i0 (eks_cons i1 evs_nil))) fun _ => ek_tup (eks_cons i1 (eks_cons i0 evs_nil))) fun v r H' s' a' p' => q v H' s' (by subst p'; exact a')
/-! the law's is_name -/
abbrev s_law_is_name : Stmt := top 31
theorem sc_law_is_name : FnScope ["_law_thing", "_law_sign"] ["_law_thing"] (defScope s_law_is_name) := ⟨rfl, rfl, rfl, by decide +kernel, rfl, by decide +kernel, by decide +kernel⟩
theorem fil_nil (x : Str) : decide (((Gd.signs x).filter fun d => !letD d).map id = []) = x.cps.toList.all fun c => decide (c ∈ abc.cps.toList) := by
  rw [List.map_id]
  have e : (Gd.signs x).filter (fun d => !letD d) = (x.cps.toList.filter fun c => !decide (c ∈ abc.cps.toList)).map fun c => PyData.str ⟨#[c]⟩ := by
    unfold Gd.signs
    rw [List.filter_map]
    congr 1
    apply List.filter_congr
    intro c _
    simp [letD]
  rw [e]
  rw [Bool.eq_iff_iff, decide_eq_true_iff, List.map_eq_nil_iff, List.filter_eq_nil_iff, List.all_eq_true]
  simp
theorem ok_law_is_name (X : K.In base) (G : base.Ns mainGlobals mg) (T : Txt mg) (D : DefAt K "_law_is_name" s_law_is_name) : CalG P w K mg base 1 "_law_is_name" (SpIs nameB) := by
  refine calG_of X G D sc_law_is_name (fun _ _ _ _ _ _ us hl => match us, hl with | [_], _ => rfl) (fun vs H Q E h => fun1_len h) (fun f cdv A outer s H vs Q E ng hr h => ?_)
  refine ⟨_, (pss_cons (ps_if (PW.pt (pw_or (pt_not (pt_val (pe_callB call_isi (by rfl) T.b_isinstance (by decide +kernel) (pa_cons (pv 0) (pa_cons (pe_bltn (v := .ty "str") (by rfl) T.b_str (by decide +kernel) rfl) pa_nil))))) (pw_or1 (pt_not (pt_chain op_le op_le pe_int (pe_callB call_lenA (by rfl) T.b_len (by decide +kernel) (pa_cons (pv 0) pa_nil)) pe_int)))))
        (pss_one (ps_ret pe_bl))
        pss_nil)
      (pss_one (ps_ret (pe_cmpR (op_eqA hr.units) (pe_lc (own := [("_law_sign", 1)]) rfl sc_law_is_name.nd (pi_str (pv 0)) (blkOk_by (by rfl)) (fun _ _ _ _ _ => (pg_name (i := 1) sc_law_is_name.nd rfl (Or.inl rfl))) (fun _ _ _ _ _ => (pts_one (pt_cmpR op_notIn_sign (pv 1) pe_str rfl))) (fun _ _ _ _ _ => (pv 1))) (pe_lst pa_nil) (nomark _))))), fun1_body h 1 rfl fun F d o q => ?_⟩
  have e1 : ∀ F, Ek [H] F none (absOf 1 [d]) (tVar 0) d := fun F => ev_var rfl
  have fin : ∀ b : Bool, b = nameB d → ∀ v r H', St [H] F none H' → Da F H' v r → r = .bool b → Q v H' := fun b e v r H' s' a' p' => q v H' s' (by rw [← e, ← p']; exact a')
  cases d with
  | str x =>
    have lx : x.length ≤ 100000 := Nat.le_trans o.str (by decide)
    refine ok_seq (ok_ifK (etk_or (a := !true) (etk_not (etk_B (ek_isi (e1 F) (isi_str _)))) fun _ => etk_not (etk_test (ek_chain ev_int (ek_cb (eks_cons (e1 F) evs_nil) (cd_lenS (K := K) lx)) ev_int od_B0 od_B0))) (fun z => ?_) fun z => ok_next ?_)
    · refine ok_ret ev_bl (fin false ?_)
      have z' : (decide ((1 : Int) ≤ x.length) && decide ((x.length : Int) ≤ 8)) = false := or_f z
      show false = (_ && _)
      rw [z']
      rfl
    · have z' : (decide ((1 : Int) ≤ x.length) && decide ((x.length : Int) ≤ 8)) = true := or_t z
      refine ok_ret (ek_op (ek_lcFil (i := 1) (ds := Gd.signs x) (f := id) (t := fun d => !letD d) (by exact True.intro) (src_str (K := K) ((e1 F).imp fun d e => ⟨x, e, rfl, lx⟩)) (fun k d ed F' => ?_) fun k d ed _ F' => ev_var rfl) (ek_lst evs_nil) od_eqNil) (fin _ ?_)
      · obtain ⟨c, rfl⟩ := signs_at ed
        refine (etk_test (ek_op (ev_var rfl) ev_str od_ninS)).imp fun k e => e.trans ?_
        simp [letD, abc]
      · show _ = (_ && _)
        rw [z', Bool.true_and, fil_nil]
  | none | bool _ | int _ | list _ | tuple _ | dict _ =>
    refine ok_seq (ok_ifK (c := true) (etk_or (a := true) (b := false) (etk_not (etk_B (ek_isi (e1 F) (isi_str _)))) fun z => nomatch z) (fun z => ok_ret ev_bl (fin false rfl)) fun z => nomatch z)
end
end K11

namespace K11
open PySem PySem.Spec PyProof.Rows L2 Gd
section
variable {P : Program} {w : World} {K : PySem.W.Frag} {mg : Str → Option Value} {base : Heap}
def twoP (d : PyData) : Prop := okP d ∧ ∃ a b, d = .tuple [a, b]
/-! the law's are_names, of a tuple of two -/
abbrev s_law_are_names : Stmt := top 32
theorem sc_law_are_names : FnScope ["_law_thing", "_law_one"] ["_law_thing"] (defScope s_law_are_names) := ⟨rfl, rfl, rfl, by decide +kernel, rfl, by decide +kernel, by decide +kernel⟩
theorem nameB_plain {d : PyData} (h : nameB d = true) : d.plain = true := by
  obtain ⟨x, rfl⟩ := nameB_str h
  rfl
theorem nameB_depth {d : PyData} (h : nameB d = true) : d.depth = 0 := by
  obtain ⟨x, rfl⟩ := nameB_str h
  rfl
theorem two_unlike {a b : PyData} (h1 : nameB a = true) (h2 : nameB b = true) : decide (([a, b].filter fun d => decide ((1 : Int) < (([a, b].countP fun y => PyData.eqv y d : Nat) : Int))).map id = []) = !PyData.eqv a b := by
  obtain ⟨x, rfl⟩ := nameB_str h1
  obtain ⟨y, rfl⟩ := nameB_str h2
  have r1 : ∀ z : Str, PyData.eqv (.str z) (.str z) = true := fun z => by rw [eqv_str]; simp
  by_cases e : x = y
  · subst e
    simp [r1, List.countP_cons]
  · have n1 : PyData.eqv (.str x) (.str y) = false := by rw [eqv_str]; simp [e]
    have n2 : PyData.eqv (.str y) (.str x) = false := by rw [eqv_str]; simp [Ne.symm e]
    simp [r1, n1, n2, List.countP_cons]
theorem two_names {a b : PyData} : decide (([a, b].filter fun d => !nameB d).map id = []) = (nameB a && nameB b) := by
  cases h1 : nameB a <;> cases h2 : nameB b <;> simp [h1, h2]
theorem ok_are_names (X : K.In base) (G : base.Ns mainGlobals mg) (T : Txt mg) (D : DefAt K "_law_are_names" s_law_are_names) (c_law_is_name : CalG P w K mg base 1 "_law_is_name" (SpIs nameB)) : CalG P w K mg base 2 "_law_are_names" (Fun1 twoP fun d => .bool (pairB d)) := by
  refine calG_of X G D sc_law_are_names (fun _ _ _ _ _ _ us hl => match us, hl with | [_], _ => rfl) (fun vs H Q E h => fun1_len h) (fun f cdv A outer s H vs Q E ng hr h => ?_)
  refine ⟨_, (pss_cons (ps_if (PW.pt (pw_or (pt_not (pt_val (pe_callB call_isiT (by rfl) T.b_isinstance (by decide +kernel) (pa_cons (pv 0) (pa_cons (pe_tup (pa_cons (pe_bltn (v := .ty "list") (by rfl) T.b_list (by decide +kernel) rfl) (pa_cons (pe_bltn (v := .ty "tuple") (by rfl) T.b_tuple (by decide +kernel) rfl) pa_nil))) pa_nil))))) (pw_or1 (pt_cmpR (op_neA hr.units) (pe_lc (own := [("_law_one", 1)]) rfl sc_law_are_names.nd (pi_tup (pv 0)) (blkOk_by (by rfl)) (fun _ _ _ _ _ => (pg_name (i := 1) sc_law_are_names.nd rfl (Or.inl rfl))) (fun _ _ _ _ _ => (pts_one (pt_not (pt_val (pe_cg c_law_is_name ng hr (by decide) (pa_cons (pv 1) pa_nil)))))) (fun _ _ _ _ _ => (pv 1))) (pe_lst pa_nil) (nomark _)))))
        (pss_one (ps_ret pe_bl))
        pss_nil)
      (pss_one (ps_ret (pe_cmpR (op_eqA hr.units) (pe_lc (own := [("_law_one", 1)]) rfl sc_law_are_names.nd (pi_tup (pv 0)) (blkOk_by (by rfl)) (fun _ _ _ _ _ => (pg_name (i := 1) sc_law_are_names.nd rfl (Or.inl rfl))) (fun _ _ _ _ _ => (pts_one (pt_cmpR op_gt (pe_bmT PySem.F.plainAttrs_tuple PySem.F.slot_tuple_count PySem.F.type_tuple_count (mt_countT hr.units) (pv 0) (pa_cons (pv 1) pa_nil)) pe_int (nomark _)))) (fun _ _ _ _ _ => (pv 1))) (pe_lst pa_nil) (nomark _))))), fun1_body h 1 rfl fun F d ⟨o, a, b, e⟩ q => ?_⟩
  subst e
  have e1 : ∀ F, Ek [H] F none (absOf 1 [.tuple [a, b]]) (tVar 0) (.tuple [a, b]) := fun F => ev_var rfl
  have fin : ∀ k : Bool, k = pairB (.tuple [a, b]) → ∀ v r H', St [H] F none H' → Da F H' v r → r = .bool k → Q v H' := fun b e v r H' s' a' p' => q v H' s' (by rw [← e, ← p']; exact a')
  have src : Src [H] F none (absOf 1 [.tuple [a, b]]) K _ (· = [a, b]) := src_tup ((e1 F).imp fun d e => ⟨[a, b], e, rfl, by show 2 ≤ 100000; decide⟩)
  have okd : ∀ (k : Nat) (d : PyData), [a, b][k]? = some d → okP d := fun k d ed => o.tup d (List.mem_of_getElem? ed)
  refine ok_seq (ok_ifK (etk_or (a := !(false || true)) (etk_not (etk_B (ek_isiT (e1 F) (isi_list _) (isi_tup _)))) fun _ =>
    etk_test (ek_op (ek_lcFil (i := 1) (ds := [a, b]) (f := id) (t := fun d => !nameB d) (by exact True.intro) src (fun k d ed F' => etk_not (etk_B (ek_is nameB (ev_var rfl) (okd k d ed)))) fun k d ed _ F' => ev_var rfl) (ek_lst evs_nil) od_neNil)) (fun z => ?_) fun z => ok_next ?_)
  · refine ok_ret ev_bl (fin false ?_)
    have z' : (nameB a && nameB b) = false := by
      rw [two_names] at z
      exact or_f z
    show false = (nameB a && (nameB b && _))
    rw [← Bool.and_assoc, z']
    rfl
  · have z' : (nameB a && nameB b) = true := by
      rw [two_names] at z
      exact or_t z
    obtain ⟨n1, n2⟩ := Bool.and_eq_true_iff.mp z'
    have nm : ∀ (k : Nat) (d : PyData), [a, b][k]? = some d → nameB d = true := fun k d ed => by
      have m := List.mem_of_getElem? ed
      simp at m
      rcases m with rfl | rfl
      · exact n1
      · exact n2
    refine ok_ret (ek_op (ek_lcFil (i := 1) (ds := [a, b]) (f := id) (t := fun d => decide ((1 : Int) < (([a, b].countP fun y => PyData.eqv y d : Nat) : Int))) (by exact True.intro) src (fun k d ed F' => ?_) fun k d ed _ F' => ev_var rfl) (ek_lst evs_nil) od_eqNil) (fin _ ?_)
    · refine etk_test (ek_op (ek_countT (ds := [a, b]) (d := d) (ev_var rfl) (eks_cons (ev_var rfl) evs_nil) ?_ (nameB_plain (nm k d ed)) ?_) ev_int od_B0)
      · show (a.plain && (b.plain && true)) = true
        rw [nameB_plain n1, nameB_plain n2]
        rfl
      · show max a.depth (max b.depth 0) ≤ 60
        rw [nameB_depth n1, nameB_depth n2]
        decide
    · rw [two_unlike n1 n2]
      show _ = (nameB a && (nameB b && _))
      rw [n1, n2]
      rfl
/-! the law's is_pair, is_answer -/
abbrev s_law_is_pair : Stmt := top 33
theorem sc_law_is_pair : FnScope ["_law_thing"] ["_law_thing"] (defScope s_law_is_pair) := ⟨rfl, rfl, rfl, by decide +kernel, rfl, by decide +kernel, by decide +kernel⟩
theorem ok_law_is_pair (X : K.In base) (G : base.Ns mainGlobals mg) (T : Txt mg) (D : DefAt K "_law_is_pair" s_law_is_pair) (c_law_are_names : CalG P w K mg base 2 "_law_are_names" (Fun1 twoP fun d => .bool (pairB d))) : CalG P w K mg base 3 "_law_is_pair" (SpIs pairB) := by
  refine calG_of X G D sc_law_is_pair (fun _ _ _ _ _ _ us hl => match us, hl with | [_], _ => rfl) (fun vs H Q E h => fun1_len h) (fun f cdv A outer s H vs Q E ng hr h => ?_)
  refine ⟨_, (pss_one (ps_ret (pe_and (pe_callB call_isi (by rfl) T.b_isinstance (by decide +kernel) (pa_cons (pv 0) (pa_cons (pe_bltn (v := .ty "tuple") (by rfl) T.b_tuple (by decide +kernel) rfl) pa_nil))) (pe_and (pe_cmpR (op_eqA hr.units) (pe_callB call_lenA (by rfl) T.b_len (by decide +kernel) (pa_cons (pv 0) pa_nil)) pe_int (nomark _)) (pe_one (pe_cg c_law_are_names ng hr (by decide) (pa_cons (pv 0) pa_nil))))))), fun1_body h 0 rfl fun F d o q => ?_⟩
  have e1 : Ek [H] F none (absOf 0 [d]) (tVar 0) d := ev_var rfl
  have fin : ∀ b : Bool, b = pairB d → ∀ v r H', St [H] F none H' → Da F H' v r → r = .bool b → Q v H' := fun b e v r H' s' a' p' => q v H' s' (by rw [← e, ← p']; exact a')
  cases d with
  | tuple xs =>
    refine ok_ret (ek_andV (a := true) (b := decide ((xs.length : Int) = 2) && pairB (.tuple xs)) (ek_isi e1 (isi_tup _)) fun _ => ek_andV (ek_op (ek_cb (eks_cons e1 evs_nil) (cd_lenT (K := K))) ev_int od_eqI) fun z => ?_) (fin _ ?_)
    · have z2 : (xs.length : Int) = 2 := by simpa using z
      match xs, z2 with
      | [a, b], _ => exact ek_fun1 (f := fun d => .bool (pairB d)) e1 ⟨o, a, b, rfl⟩
      | [], z => exact nomatch z
      | [_], z => exact nomatch z
      | _ :: _ :: _ :: r, z =>
        simp at z
        omega
    · by_cases z : xs.length = 2
      · simp [z]
      · rw [pairB_ne z]
        simp
  | none | bool _ | int _ | list _ | str _ | dict _ =>
    exact ok_ret (ek_andV (a := false) (b := false) (ek_isi e1 (isi_tup _)) fun z => nomatch z) (fin false rfl)
abbrev s_law_is_answer : Stmt := top 34
theorem sc_law_is_answer : FnScope ["_law_thing"] ["_law_thing"] (defScope s_law_is_answer) := ⟨rfl, rfl, rfl, by decide +kernel, rfl, by decide +kernel, by decide +kernel⟩
theorem ok_law_is_answer (X : K.In base) (G : base.Ns mainGlobals mg) (T : Txt mg) (D : DefAt K "_law_is_answer" s_law_is_answer) (c_law_is_pair : CalG P w K mg base 3 "_law_is_pair" (SpIs pairB)) : CalG P w K mg base 4 "_law_is_answer" (SpIs answerB) := by
  refine calG_of X G D sc_law_is_answer (fun _ _ _ _ _ _ us hl => match us, hl with | [_], _ => rfl) (fun vs H Q E h => fun1_len h) (fun f cdv A outer s H vs Q E ng hr h => ?_)
  refine ⟨_, (pss_cons (ps_if (PW.pt (pw_or (pt_not (pt_val (pe_callB call_isi (by rfl) T.b_isinstance (by decide +kernel) (pa_cons (pv 0) (pa_cons (pe_bltn (v := .ty "tuple") (by rfl) T.b_tuple (by decide +kernel) rfl) pa_nil))))) (pw_or1 (pt_cmpR (op_neA hr.units) (pe_callB call_lenA (by rfl) T.b_len (by decide +kernel) (pa_cons (pv 0) pa_nil)) pe_int (nomark _)))))
        (pss_one (ps_ret pe_bl))
        pss_nil)
      (pss_one (ps_ret (pe_and (pe_cg c_law_is_pair ng hr (by decide) (pa_cons (pe_slice sl_all (pv 0) po_none (po_some pe_int)) pa_nil)) (pe_one (pe_callB call_isi (by rfl) T.b_isinstance (by decide +kernel) (pa_cons (pe_ix ix_seq (pv 0) pe_int (fun _ _ => rfl)) (pa_cons (pe_bltn (v := .ty "bool") (by rfl) T.b_bool (by decide +kernel) rfl) pa_nil)))))))), fun1_body h 0 rfl fun F d o q => ?_⟩
  have e1 : Ek [H] F none (absOf 0 [d]) (tVar 0) d := ev_var rfl
  have fin : ∀ b : Bool, b = answerB d → ∀ v r H', St [H] F none H' → Da F H' v r → r = .bool b → Q v H' := fun b e v r H' s' a' p' => q v H' s' (by rw [← e, ← p']; exact a')
  cases d with
  | tuple xs =>
    refine ok_seq (ok_ifK (etk_or (a := !true) (etk_not (etk_B (ek_isi e1 (isi_tup _)))) fun _ => etk_test (ek_op (ek_cb (eks_cons e1 evs_nil) (cd_lenT (K := K))) ev_int od_neI)) (fun z => ?_) fun z => ok_next ?_)
    · refine ok_ret ev_bl (fin false ?_)
      have z' : xs.length ≠ 3 := by
        intro e
        rw [e] at z
        exact nomatch z
      rw [answerB_ne z']
    · match xs, z with
      | [a, b, c], z =>
        have i2 : Ek [H] F none (absOf 0 [.tuple [a, b, c]]) _ c := ek_op e1 ev_int (od_ixT (K := K) (atI_nat (j := 2) rfl))
        have i1 : Ek [H] F none (absOf 0 [.tuple [a, b, c]]) _ (.tuple [a, b]) := ek_slT (K := K) (ds := [a, b, c]) (lo := none) (hi := some 2) e1 ep_none (ep_some ev_int)
        refine ok_ret (D := { nx := fun _ H' => Q .non H', rt := Q }) (ek_andV (ek_is pairB i1 (okP_tup fun d m => o.tup d (by revert m; simp; rintro (h | h) <;> simp [h]))) fun n1 => ek_isi i2 (isi_bool c)) (fin _ ?_)
        cases c <;> simp [answerB]
      | [], z => exact nomatch z
      | [_], z => exact nomatch z
      | [_, _], z => exact nomatch z
      | _ :: _ :: _ :: _ :: r, z =>
        simp at z
        omega
  | none | bool _ | int _ | list _ | str _ | dict _ =>
    refine ok_seq (ok_ifK (c := true) (etk_or (a := true) (b := false) (etk_not (etk_B (ek_isi e1 (isi_tup _)))) fun z => nomatch z) (fun z => ok_ret ev_bl (fin false rfl)) fun z => nomatch z)
/-! what is told of any value -/
abbrev s_law_judged : Stmt := top 37
theorem sc_law_judged : FnScope ["_law_thing"] ["_law_thing"] (defScope s_law_judged) := ⟨rfl, rfl, rfl, by decide +kernel, rfl, by decide +kernel, by decide +kernel⟩
def judD (d : PyData) : PyData := .list [.bool (intB d), .bool (nameB d), .bool (pairB d), .bool (answerB d)]
theorem judO_len {C : Addr} {r : PyData} {vs : List V} {H : Hp} {Q : VK} {E : XK} (h : SpOr (Fun1 okP judD) (SpIns C r) vs H Q E) : vs.length = 1 := or_len h
def noneD : PyData := .list [.bool false, .bool false, .bool false, .bool false]
theorem ok_judged (X : K.In base) (G : base.Ns mainGlobals mg) (T : Txt mg) {C : Addr} (D : DefAt K "_law_judged" s_law_judged) (cis_integer : CalG P w K mg base 1 "is_integer" (SpIsO C intB)) (cis_name : CalG P w K mg base 1 "is_name" (SpIsO C nameB))
    (cis_pair : CalG P w K mg base 2 "is_pair" (SpIsO C pairB)) (cis_answer : CalG P w K mg base 3 "is_answer" (SpIsO C answerB)) : CalG P w K mg base 4 "_law_judged" (SpOr (Fun1 okP judD) (SpIns C noneD)) := by
  refine calG_of X G D sc_law_judged (fun _ _ _ _ _ _ us hl => match us, hl with | [_], _ => rfl) (fun vs H Q E h => or_len h) (fun f cdv A outer s H vs Q E ng hr h => ?_)
  refine ⟨_, (pss_one (ps_ret (pe_lst (pa_cons (pe_cg cis_integer ng hr (by decide) (pa_cons (pv 0) pa_nil)) (pa_cons (pe_cg cis_name ng hr (by decide) (pa_cons (pv 0) pa_nil)) (pa_cons (pe_cg cis_pair ng hr (by decide) (pa_cons (pv 0) pa_nil)) (pa_cons (pe_cg cis_answer ng hr (by decide) (pa_cons (pv 0) pa_nil)) pa_nil))))))), ?_⟩
  rcases h with h | h
  · refine fun1_body h 0 rfl fun F d o q => ?_
    have e1 : Ek [H] F none (absOf 0 [d]) (tVar 0) d := ev_var rfl
    exact ok_ret (ek_lst (eks_cons (ek_isL intB e1 o) (eks_cons (ek_isL nameB e1 o) (eks_cons (ek_isL pairB e1 o) (eks_cons (ek_isL answerB e1 o) evs_nil))))) fun v r H' s' a' p' => q v H' s' (by subst p'; exact a')
  · exact ins_body h 0 rfl fun F q' => ok_ret (ek_lst (eks_cons (ek_isR rfl) (eks_cons (ek_isR rfl) (eks_cons (ek_isR rfl) (eks_cons (ek_isR rfl) evs_nil))))) q'
end
end K11

/-! sizes of what is drawn; the bag; a name with a sign more; values near answers -/
namespace K11
open PySem PySem.Spec PyProof.Rows L2 Gd
def flatB : PyData → Bool
  | .none | .bool _ | .int _ | .str _ => true
  | _ => false
def smB (d : PyData) : Bool := flatB d && okd d
/-- what a thing of the law is -/
structure Th (n m : Nat) (d : PyData) : Prop where
  ok : okd d = true
  wt : wt d ≤ m
  deep : d.depth ≤ n
  kind : d.hasDict = true → hasList d = false
theorem sm_wt {d : PyData} (h : smB d = true) : wt d ≤ 1002 := by
  have h' := Bool.and_eq_true_iff.mp h
  cases d with
  | none => show 4 ≤ 1002; decide
  | bool _ => show 5 ≤ 1002; decide
  | int i =>
    have := h'.2
    simp only [okd, decide_eq_true_eq] at this
    simp only [Gd.wt]
    omega
  | str x =>
    have := okP.str (show okP (.str x) from h'.2)
    simp only [Gd.wt]
    omega
  | list _ | tuple _ | dict _ => exact nomatch h'.1
theorem sm_flat {d : PyData} (h : smB d = true) : okd d = true ∧ d.depth = 0 ∧ d.hasDict = false ∧ hasList d = false := by
  have h' := Bool.and_eq_true_iff.mp h
  refine ⟨h'.2, ?_⟩
  cases d with
  | none | bool _ | int _ | str _ => exact ⟨rfl, rfl, rfl⟩
  | list _ | tuple _ | dict _ => exact nomatch h'.1
theorem Sm.th {d : PyData} (h : smB d = true) : Th 0 1002 d := by
  obtain ⟨h1, h2, h3, h4⟩ := sm_flat h
  exact ⟨h1, sm_wt h, by omega, fun z => h4⟩
theorem Th.wide {n m n' m' : Nat} {d : PyData} (h : Th n m d) (a : n ≤ n') (b : m ≤ m') : Th n' m' d := ⟨h.ok, Nat.le_trans h.wt b, Nat.le_trans h.deep a, h.kind⟩
theorem sms_all {xs : List PyData} (h : ∀ d ∈ xs, smB d = true) : okdAll xs = true ∧ PyData.depthAll xs = 0 ∧ PyData.hasDictAll xs = false ∧ hasListAll xs = false ∧ wtAll xs ≤ 1004 * xs.length := by
  induction xs with
  | nil => exact ⟨rfl, rfl, rfl, rfl, Nat.le_refl _⟩
  | cons x xs ih =>
    obtain ⟨a1, a2, a3, a4⟩ := sm_flat (h x List.mem_cons_self)
    obtain ⟨b1, b2, b3, b4, b5⟩ := ih fun d m => h d (List.mem_cons_of_mem _ m)
    have a5 := sm_wt (h x List.mem_cons_self)
    refine ⟨by simp [okdAll, a1, b1], by simp [PyData.depthAll, a2, b2], by simp [PyData.hasDictAll, a3, b3], by simp [hasListAll, a4, b4], ?_⟩
    simp only [wtAll, List.length_cons]
    omega
theorem all_app {xs ys : List PyData} : okdAll (xs ++ ys) = (okdAll xs && okdAll ys) ∧ PyData.depthAll (xs ++ ys) = max (PyData.depthAll xs) (PyData.depthAll ys) ∧
    PyData.hasDictAll (xs ++ ys) = (PyData.hasDictAll xs || PyData.hasDictAll ys) ∧ hasListAll (xs ++ ys) = (hasListAll xs || hasListAll ys) ∧ wtAll (xs ++ ys) = wtAll xs + wtAll ys := by
  induction xs with
  | nil => simp [okdAll, PyData.depthAll, PyData.hasDictAll, hasListAll, wtAll]
  | cons x xs ih =>
    obtain ⟨b1, b2, b3, b4, b5⟩ := ih
    rw [List.cons_append]
    simp only [okdAll, PyData.depthAll, PyData.hasDictAll, hasListAll, wtAll, b1, b2, b3, b4, b5]
    refine ⟨by rw [Bool.and_assoc], by omega, by rw [Bool.or_assoc], by rw [Bool.or_assoc], by omega⟩
/-- a tuple of small things with one thing among them -/
theorem th_around {xs ys : List PyData} {z : PyData} {n m : Nat} (h1 : ∀ d ∈ xs, smB d = true) (h2 : ∀ d ∈ ys, smB d = true) (hz : Th n m z) (l1 : xs.length ≤ 3) (l2 : ys.length ≤ 3) : Th (n + 1) (m + 6029) (.tuple (xs ++ [z] ++ ys)) := by
  obtain ⟨a1, a2, a3, a4, a5⟩ := sms_all h1
  obtain ⟨b1, b2, b3, b4, b5⟩ := sms_all h2
  obtain ⟨c1, c2, c3, c4, c5⟩ := all_app (xs := xs ++ [z]) (ys := ys)
  obtain ⟨d1, d2, d3, d4, d5⟩ := all_app (xs := xs) (ys := [z])
  obtain ⟨z1, z2, z3, z4⟩ := hz
  refine ⟨?_, ?_, ?_, fun k => ?_⟩
  · simp only [okd, c1, d1, a1, b1, okdAll, z1, Bool.and_self]
  · simp only [Gd.wt, c5, d5, wtAll]
    omega
  · simp only [PyData.depth, c2, d2, a2, b2, PyData.depthAll]
    omega
  · simp only [PyData.hasDict, c3, d3, a3, b3, PyData.hasDictAll, Bool.or_false, Bool.false_or] at k
    simp only [hasList, c4, d4, a4, b4, hasListAll, Bool.or_false, Bool.false_or]
    exact z4 k
theorem th_smalls {xs : List PyData} (h1 : ∀ d ∈ xs, smB d = true) (l1 : xs.length ≤ 8) : Th 1 8035 (.tuple xs) ∧ Th 1 8035 (.list xs) := by
  obtain ⟨a1, a2, a3, a4, a5⟩ := sms_all h1
  refine ⟨⟨by simpa only [okd] using a1, by simp only [Gd.wt]; omega, by simp only [PyData.depth, a2]; omega, fun k => by simpa only [hasList] using a4⟩,
    ⟨by simpa only [okd] using a1, by simp only [Gd.wt]; omega, by simp only [PyData.depth, a2]; omega, fun k => ?_⟩⟩
  simp only [PyData.hasDict, a3] at k
  cases k
theorem cutD_mem {α : Type} {xs : List α} {lo hi : Option Int} {d : α} (h : d ∈ Gd.cutD xs lo hi) : d ∈ xs := List.mem_of_mem_drop (List.mem_of_mem_take h)
theorem cutD_len {α : Type} {xs : List α} {lo hi : Option Int} : (Gd.cutD xs lo hi).length ≤ xs.length := by
  unfold Gd.cutD
  rw [List.length_take, List.length_drop]
  omega
section
variable {P : Program} {w : World} {K : PySem.W.Frag} {mg : Str → Option Value} {base : Heap}
/-! the bag -/
abbrev s_law_bag : Stmt := top 24
theorem sc_law_bag : FnScope ["_law_script", "_law_cell"] ["_law_script"] (defScope s_law_bag) := ⟨rfl, rfl, rfl, by decide +kernel, rfl, by decide +kernel, by decide +kernel⟩
def preBag (ds : List PyData) : Prop := ∃ ns : List Int, ds = [.list (ns.map PyData.int)]
def postBag (ds : List PyData) (d : PyData) : Prop := ∃ (n1 : Int) (ns : List Int), d = .list [.int 0, .int n1, .int 0, .list (ns.map PyData.int)] ∧ ns.length ≤ 63
def absD : PyData → PyData
  | .int i => .int (if i < 0 then -i else i)
  | d => d
theorem cd_abs {i : Int} : CaD (fun xs H Q => ∃ i : Int, xs = [.int i] ∧ Q (.int (if i < 0 then -i else i)) H) [.int i] (· = .int (if i < 0 then -i else i)) := fun F H vs Q _ a q => by
  cases a with
  | cons h1 h2 =>
    cases h2
    cases h1
    exact ⟨i, rfl, q _ _ H (Gr.refl _ H) (.int _) rfl⟩
theorem ok_bag (X : K.In base) (G : base.Ns mainGlobals mg) (T : Txt mg) (D : DefAt K "_law_bag" s_law_bag) : CalG P w K mg base 1 "_law_bag" (SpP preBag postBag) := by
  refine calG_of X G D sc_law_bag (fun _ _ _ _ _ _ us hl => match us, hl with | [_], _ => rfl) (fun vs H Q E h => ?_) (fun f cdv A outer s H vs Q E ng hr h => ?_)
  · obtain ⟨F, ds, _, a, ⟨ns, rfl⟩, _⟩ := h
    exact a.length
  refine ⟨_, (pss_one (ps_ret (pe_lst (pa_cons pe_int (pa_cons pe_int (pa_cons pe_int (pa_cons (pe_lc (own := [("_law_cell", 1)]) rfl sc_law_bag.nd (pi_list (pe_slice sl_all (pv 0) po_none (po_some pe_int))) (blkOk_by (by rfl)) (fun _ _ _ _ _ => (pg_name (i := 1) sc_law_bag.nd rfl (Or.inl rfl))) (fun _ _ _ _ _ => pts_nil) (fun _ _ _ _ _ => (pe_callB call_abs (by rfl) T.b_abs (by decide +kernel) (pa_cons (pv 1) pa_nil)))) pa_nil))))))), ?_⟩
  refine pure_body h 1 fun F ds ⟨ns, ed⟩ q => ?_
  subst ed
  refine ⟨rfl, ?_⟩
  have e1 : Ek [H] F none (absOf 1 [.list (ns.map PyData.int)]) (tVar 0) (.list (ns.map PyData.int)) := ev_var rfl
  have cut : Gd.cutD (ns.map PyData.int) none (some 63) = (ns.take 63).map PyData.int := by
    unfold Gd.cutD
    have : HT.sIx (ns.map PyData.int).length (ns.map PyData.int).length (some 63) = min 63 ns.length := by
      rw [List.length_map]
      exact HT.sIx_nat _ _ 63
    rw [this]
    show List.take (min 63 ns.length - 0) (ns.map PyData.int) = _
    rw [Nat.sub_zero, ← List.map_take]
    congr 1
    rcases Nat.le_total 63 ns.length with h | h
    · rw [Nat.min_eq_left h]
    · rw [Nat.min_eq_right h, List.take_of_length_le (Nat.le_refl _), List.take_of_length_le h]
  have e2 : Ek [H] F none (absOf 1 [.list (ns.map PyData.int)]) _ (.list ((ns.take 63).map PyData.int)) := (ek_slL (K := K) (lo := none) (hi := some 63) e1 ep_none (ep_some ev_int)).is (by rw [cut])
  have lz : ((ns.take 63).map PyData.int).length ≤ 100000 := by
    rw [List.length_map, List.length_take]
    omega
  refine ok_ret (ek_lst (eks_cons ev_int (eks_cons ev_int (eks_cons ev_int (eks_cons (ek_lcMap (i := 1) (ds := (ns.take 63).map PyData.int) (f := absD) (by exact True.intro) (src_list (K := K) (e2.imp fun d e => ⟨_, e, rfl, lz⟩)) fun k d ed F' => ?_) evs_nil))))) fun v r H' s' a' p' => q v r H' s' a' ⟨1234567891, (ns.take 63).map fun i => (if i < 0 then -i else i), ?_, ?_⟩
  · rw [List.getElem?_map] at ed
    cases e : (ns.take 63)[k]? with
    | none => rw [e] at ed; cases ed
    | some i =>
      rw [e] at ed
      cases (Option.some.inj ed)
      exact ek_cb (eks_cons (ev_var rfl) evs_nil) cd_abs
  · rw [p']
    rw [List.map_map, List.map_map]
    rfl
  · rw [List.length_map, List.length_take]
    omega
/-! texts of moderate length -/
structure StrP (x : Str) (n : Nat) : Prop where
  cps : ∀ c ∈ x.cps.toList, c < 1114112
  len : x.length ≤ n
theorem StrP.ok {x : Str} {n : Nat} (h : StrP x n) (z : n ≤ 100) : okd (.str x) = true := by
  simp only [okd, Bool.and_eq_true, decide_eq_true_eq]
  refine ⟨?_, Nat.le_trans h.len z⟩
  rw [Array.all_eq_true']
  intro c m
  exact decide_eq_true (h.cps c (by simpa using m))
theorem StrP.sm {x : Str} {n : Nat} (h : StrP x n) (z : n ≤ 100) : smB (.str x) = true := by
  show (true && okd (.str x)) = true
  rw [h.ok z]
  rfl
theorem StrP.wide {x : Str} {n m : Nat} (h : StrP x n) (z : n ≤ m) : StrP x m := ⟨h.cps, Nat.le_trans h.len z⟩
theorem StrP.app {x y : Str} {n m : Nat} (h : StrP x n) (k : StrP y m) : StrP (x ++ y) (n + m) := by
  refine ⟨fun c mc => ?_, ?_⟩
  · have e : (x ++ y).cps.toList = x.cps.toList ++ y.cps.toList := by
      show (x.cps ++ y.cps).toList = _
      simp
    rw [e] at mc
    rcases List.mem_append.mp mc with mc | mc
    · exact h.cps c mc
    · exact k.cps c mc
  · rw [strLen_append]
    have := h.len
    have := k.len
    omega
theorem StrP.cut {x : Str} {n : Nat} (h : StrP x n) (lo hi : Option Int) : StrP (cutS x lo hi) n := by
  refine ⟨fun c mc => h.cps c ?_, ?_⟩
  · unfold cutS at mc
    have mc' : c ∈ (x.cps.toList.drop (HT.sIx x.length 0 lo)).take (HT.sIx x.length x.length hi - HT.sIx x.length 0 lo) := by simpa using mc
    exact List.mem_of_mem_drop (List.mem_of_mem_take mc')
  · have := h.len
    show ((x.cps.toList.drop (HT.sIx x.length 0 lo)).take (HT.sIx x.length x.length hi - HT.sIx x.length 0 lo)).toArray.size ≤ n
    rw [List.size_toArray, List.length_take, List.length_drop]
    have e : x.cps.toList.length = x.length := by simp; rfl
    omega
theorem StrP.sign {x : Str} {d : PyData} (h : ∀ c ∈ x.cps.toList, c < 1114112) (m : d ∈ Gd.signs x) : ∃ y, d = .str y ∧ StrP y 1 := by
  unfold Gd.signs at m
  obtain ⟨c, mc, rfl⟩ := List.mem_map.mp m
  refine ⟨_, rfl, fun c' m' => ?_, Nat.le_refl _⟩
  have e : c' = c := by simpa using m'
  exact e ▸ h c mc
/-! a name with a sign more -/
abbrev s_law_signed : Stmt := top 38
theorem sc_law_signed : FnScope ["_law_bag_here", "_law_name", "_law_at", "_law_signs"] ["_law_bag_here", "_law_name"] (defScope s_law_signed) := ⟨rfl, rfl, rfl, by decide +kernel, rfl, by decide +kernel, by decide +kernel⟩
def preSigned (ds : List PyData) : Prop := ∃ x, ds = [.str x] ∧ StrP x 40
def postSigned (ds : List PyData) (r : PyData) : Prop := ∃ y, r = .str y ∧ StrP y 90
theorem spB_len1 {pre : List PyData → Prop} {post : List PyData → PyData → Prop} {vs : List V} {H : Hp} {Q : VK} {E : XK} (h : SpB pre post vs H Q E) (k : ∀ ds, pre ds → ds.length = 1) : vs.length = 2 := by
  obtain ⟨F, b, l, ws, ds, rfl, _, a, p, _⟩ := h
  rw [List.length_cons, a.length, k ds p]
theorem ok_signed (X : K.In base) (G : base.Ns mainGlobals mg) (T : Txt mg) (D : DefAt K "_law_signed" s_law_signed) (c_law_take : CalG P w K mg base 1 "_law_take" (SpB preTake postTake)) (c_law_pick : CalG P w K mg base 2 "_law_pick" (SpB prePick postPick)) :
    CalG P w K mg base 3 "_law_signed" (SpB preSigned postSigned) := by
  refine calG_of X G D sc_law_signed (fun _ _ _ _ _ _ us hl => match us, hl with | [_, _], _ => rfl) (fun vs H Q E h => spB_len1 h fun ds ⟨x, e, _⟩ => e ▸ rfl) (fun f cdv A outer s H vs Q E ng hr h => ?_)
  refine ⟨_, (pss_cons (ps_set (i := 2) sc_law_signed.nd rfl (Or.inl rfl) (pe_cg c_law_take ng hr (by decide) (pa_cons (pv 0) (pa_cons (pe_op op_addA (pe_callB call_lenA (by rfl) T.b_len (by decide +kernel) (pa_cons (pv 1) pa_nil)) pe_int) pa_nil))))
      (pss_cons (ps_set (i := 3) sc_law_signed.nd rfl (Or.inl rfl) pe_str)
      (pss_one (ps_ret (pe_op op_addA (pe_op op_addA (pe_slice sl_all (pv 1) po_none (po_some (pv 2))) (pe_cg c_law_pick ng hr (by decide) (pa_cons (pv 0) (pa_cons (pe_callTy (call_listA rfl) (by rfl) T.b_list (by decide +kernel) (pa_cons (pv 3) pa_nil)) pa_nil)))) (pe_slice sl_all (pv 1) (po_some (pv 2)) po_none)))))), ?_⟩
  refine bag_body h 2 fun F b l ds ⟨x, ed, sp⟩ q => ?_
  subst ed
  refine ⟨rfl, ?_⟩
  have lx : x.length ≤ 100000 := Nat.le_trans sp.len (by decide)
  refine ok_seq (ok_asg (φ := fun d => ∃ r : Int, d = .int r) (ev_callB (i := 0) (pre := preTake) (post := postTake) (E := E0) rfl (eks_cons (ek_op (ek_cb (eks_cons (ev_var rfl) evs_nil) (cd_lenS (K := K) lx)) ev_int od_addI) evs_nil) (fun ds e => ⟨_, e, by omega, ?_⟩) (fun ds d e ⟨m, r, e', e3, r0, r1⟩ => ⟨r, e3⟩)) fun d ⟨r, ed⟩ => ?_)
  · have := sp.len
    omega
  subst ed
  dsimp only
  refine ok_seq ?_
  refine ok_asgK (i := 3) ev_str ?_
  dsimp only
  refine ok_ret (φ := fun d => ∃ y, d = .str y ∧ StrP y 81) ?_ fun v r H' s' a' ⟨y, e, k⟩ => q v r H' s' a' ⟨y, e, k.wide (by decide)⟩
  have c1 : ∀ z : PyData, Ek [H] F (some (b, l)) (((Ab.bag :: absOf 2 [PyData.str x]).set 2 (Ab.dat (PyData.int r))).set 3 (Ab.dat z)) (tSl (rSlAll K) (tVar 1) tNoPart (tPart (tVar 2))) (.str (cutS x none (some r))) := fun z => ek_slS (ev_var rfl) lx ep_none (ep_some (ev_var rfl))
  have c2 : ∀ z : PyData, Ek [H] F (some (b, l)) (((Ab.bag :: absOf 2 [PyData.str x]).set 2 (Ab.dat (PyData.int r))).set 3 (Ab.dat z)) (tSl (rSlAll K) (tVar 1) (tPart (tVar 2)) tNoPart) (.str (cutS x (some r) none)) := fun z => ek_slS (ev_var rfl) lx (ep_some (ev_var rfl)) ep_none
  refine ev_op (φ := fun d => ∃ y, d = .str y ∧ StrP y 41) (ev_op (c1 _) (ev_callB (φ := fun d => ∃ y, d = .str y ∧ StrP y 1) (i := 0) (pre := prePick) (post := postPick) (E := E0) rfl (eks_cons (ek_cb (eks_cons (ev_var rfl) evs_nil) (cd_listS (by decide))) evs_nil) (fun ds e => ⟨_, e, by decide, by decide⟩) (fun ds d e ⟨xs, e', m⟩ => ?_)) ?_) (c2 _) ?_
  · subst e
    cases e'
    exact StrP.sign (by decide) m
  · rintro d e rfl ⟨y, rfl, k⟩
    have s1 := (sp.cut none (some r)).app k
    intro F2 H2 u v Q2 tr a1 a2 q2
    exact od_addS (by have := s1.len; rw [strLen_append] at this; omega) F2 H2 u v Q2 tr a1 a2 fun v d H3 g a3 p3 => q2 v d H3 g a3 ⟨_, p3, s1⟩
  · rintro d e ⟨y, rfl, k⟩ rfl
    have s1 := k.app (sp.cut (some r) none)
    intro F2 H2 u v Q2 tr a1 a2 q2
    exact od_addS (by have := s1.len; rw [strLen_append] at this; omega) F2 H2 u v Q2 tr a1 a2 fun v d H3 g a3 p3 => q2 v d H3 g a3 ⟨_, p3, s1⟩
end
end K11

/-! values near answers -/
namespace K11
open PySem PySem.Spec PyProof.Rows L2 Gd
section
variable {P : Program} {w : World} {K : PySem.W.Frag} {mg : Str → Option Value} {base : Heap}
def preOdd (ds : List PyData) : Prop := ∃ x, ds = [.str x] ∧ StrP x 40
def postOdd (ds : List PyData) (r : PyData) : Prop := Th 3 8000 r
abbrev s_law_near : Stmt := top 36
theorem sc_law_near : FnScope ["_law_bag_here", "_law_answer", "_law_at", "_law_way", "_law_truth"] ["_law_bag_here", "_law_answer"] (defScope s_law_near) := ⟨rfl, rfl, rfl, by decide +kernel, rfl, by decide +kernel, by decide +kernel⟩
def preNear (ds : List PyData) : Prop := ∃ x y, ∃ cs : List Bool, ds = [.tuple (.str x :: .str y :: cs.map PyData.bool)] ∧ StrP x 40 ∧ StrP y 40 ∧ cs.length ≤ 1
def postNear (ds : List PyData) (r : PyData) : Prop := Th 5 20000 r
theorem cut_front {xs : List PyData} : Gd.cutD xs none (some 2) = xs.take 2 := by
  unfold Gd.cutD
  rw [show HT.sIx xs.length xs.length (some 2) = min 2 xs.length from HT.sIx_nat _ _ 2]
  show List.take (min 2 xs.length - 0) xs = _
  rw [Nat.sub_zero]
  rcases Nat.le_total 2 xs.length with h | h
  · rw [Nat.min_eq_left h]
  · rw [Nat.min_eq_right h, List.take_of_length_le (Nat.le_refl _), List.take_of_length_le h]
theorem cut_back {xs : List PyData} : Gd.cutD xs (some 2) none = xs.drop 2 := by
  unfold Gd.cutD
  rw [show HT.sIx xs.length 0 (some 2) = min 2 xs.length from HT.sIx_nat _ _ 2]
  show List.take (xs.length - min 2 xs.length) (xs.drop (min 2 xs.length)) = _
  rcases Nat.le_total 2 xs.length with h | h
  · rw [Nat.min_eq_left h, List.take_of_length_le (by rw [List.length_drop]; exact Nat.le_refl _)]
  · rw [Nat.min_eq_right h, List.drop_eq_nil_of_le (Nat.le_refl _), List.drop_eq_nil_of_le h]
    simp
theorem od_addT3 {xs ys : List PyData} {K : PySem.W.Frag} {φ : PyData → Prop} (h : xs.length ≤ 4) (k : ys.length ≤ 4) (p : φ (.tuple (xs ++ ys))) : OpD (rAddA K) (.tuple xs) (.tuple ys) φ := fun F H x y Q tr a1 a2 q =>
  od_addT (by omega) F H x y Q tr a1 a2 fun v d H3 g a3 p3 => q v d H3 g a3 (p3 ▸ p)
theorem Evs.imp' {Hi : List Hp} {F : List Addr} {B : Bag} {ab : List Ab} {ta : TA} {φ ψ : List PyData → Prop} (h : Evs Hi F B ab ta φ) (i : ∀ d, φ d → ψ d) : Evs Hi F B ab ta ψ := fun σ H Q s l q => h σ H Q s l fun v d H' c s' a p => q v d H' c s' a (i d p)
theorem evs_one {Hi : List Hp} {F : List Addr} {B : Bag} {ab : List Ab} {te : TE} {φ : PyData → Prop} (h : Ev Hi F B ab te φ) : Evs Hi F B ab (tCons te tNil) (fun ds => ∃ d, ds = [d] ∧ φ d) := Evs.imp' (evs_cons h evs_nil) fun ds ⟨d, r, e, p, e2⟩ => ⟨d, by rw [e, e2], p⟩
theorem evs_two {Hi : List Hp} {F : List Addr} {B : Bag} {ab : List Ab} {te tf : TE} {φ ψ : PyData → Prop} (h : Ev Hi F B ab te φ) (k : Ev Hi F B ab tf ψ) : Evs Hi F B ab (tCons te (tCons tf tNil)) (fun ds => ∃ d e, ds = [d, e] ∧ φ d ∧ ψ e) :=
  Evs.imp' (evs_cons h (evs_one k)) fun ds ⟨d, r, e, p, e2, e3, p2⟩ => ⟨d, e2, by rw [e, e3], p, p2⟩
/-- a number drawn -/
theorem ev_take {Hi : List Hp} {F : List Addr} {B : Bag} {ab : List Ab} {te : TE} {i : Nat} {m : Int} {E : XK} (hb : ab[i]? = some .bag) (h : Ek Hi F B ab te (.int m)) (m0 : 0 < m) (m1 : m < 1073741824) :
    Ev Hi F B ab (tCall (SpB preTake postTake) [] E (tCons (tVar i) (tCons te tNil))) (fun d => ∃ r : Int, d = .int r ∧ 0 ≤ r ∧ r < m) :=
  ev_callB hb (eks_cons h evs_nil) (fun ds e => ⟨m, e, m0, m1⟩) fun ds d e ⟨m', r, e', e3, r0, r1⟩ => by
    rw [e] at e'
    cases e'
    exact ⟨r, e3, r0, r1⟩
def intD : PyData → PyData
  | .bool c => .int (if c then 1 else 0)
  | d => d
def notD : PyData → PyData
  | .bool c => .bool (!c)
  | d => d
theorem cd_intB {c : Bool} : CaD rIntA [.bool c] (· = .int (if c then 1 else 0)) := fun F H vs Q _ a q => by
  cases a with
  | cons h1 h2 =>
    cases h2
    cases h1
    exact .inr ⟨c, rfl, q _ _ H (Gr.refl _ H) (.int _) rfl⟩
theorem sm_intD (cs : List Bool) : ∀ d ∈ (cs.map PyData.bool).map intD, smB d = true := fun d m => by
  rw [List.map_map] at m
  obtain ⟨c, _, rfl⟩ := List.mem_map.mp m
  cases c <;> decide
theorem sm_notD (cs : List Bool) : ∀ d ∈ (cs.map PyData.bool).map notD, smB d = true := fun d m => by
  rw [List.map_map] at m
  obtain ⟨c, _, rfl⟩ := List.mem_map.mp m
  cases c <;> rfl
theorem bool_at {cs : List Bool} {k : Nat} {d : PyData} (h : (cs.map PyData.bool)[k]? = some d) : ∃ c, d = .bool c := by
  obtain ⟨c, _, rfl⟩ := List.mem_map.mp (List.mem_of_getElem? h)
  exact ⟨c, rfl⟩
theorem ok_near (X : K.In base) (G : base.Ns mainGlobals mg) (T : Txt mg) (D : DefAt K "_law_near" s_law_near) (c_law_take : CalG P w K mg base 1 "_law_take" (SpB preTake postTake)) (c_law_odd : CalG P w K mg base 3 "_law_odd" (SpB preOdd postOdd)) :
    CalG P w K mg base 4 "_law_near" (SpB preNear postNear) := by
  refine calG_of X G D sc_law_near (fun _ _ _ _ _ _ us hl => match us, hl with | [_, _], _ => rfl) (fun vs H Q E h => spB_len1 h fun ds ⟨x, y, cs, e, _⟩ => e ▸ rfl) (fun f cdv A outer s H vs Q E ng hr h => ?_)
  refine ⟨_, (pss_cons (ps_par (i := 2) (j := 3) (by rfl) sc_law_near.nd rfl rfl (by decide) rfl rfl (pa_cons (pe_cg c_law_take ng hr (by decide) (pa_cons (pv 0) (pa_cons (pe_callB call_lenA (by rfl) T.b_len (by decide +kernel) (pa_cons (pv 1) pa_nil)) pa_nil))) (pa_cons (pe_cg c_law_take ng hr (by decide) (pa_cons (pv 0) (pa_cons pe_int pa_nil))) pa_nil)) (by rfl))
      (pss_cons (ps_if (pt_cmpR (op_eqA hr.units) (pv 3) pe_int (nomark _))
        (pss_one (ps_ret (pe_op op_addA (pe_op op_addA (pe_slice sl_all (pv 1) po_none (po_some (pv 2))) (pe_tupX (pa_cons (pe_cg c_law_odd ng hr (by decide) (pa_cons (pv 0) (pa_cons (pe_ix ix_seq (pv 1) pe_int (fun _ _ => rfl)) pa_nil))) pa_nil))) (pe_slice sl_all (pv 1) (po_some (pe_op op_addA (pv 2) pe_int)) po_none))))
        pss_nil)
      (pss_cons (ps_if (pt_cmpR (op_eqA hr.units) (pv 3) pe_int (nomark _))
        (pss_one (ps_ret (pe_op op_addA (pe_slice sl_all (pv 1) po_none (po_some (pv 2))) (pe_slice sl_all (pv 1) (po_some (pe_op op_addA (pv 2) pe_int)) po_none))))
        pss_nil)
      (pss_cons (ps_if (pt_cmpR (op_eqA hr.units) (pv 3) pe_int (nomark _))
        (pss_one (ps_ret (pe_callTy (call_listA rfl) (by rfl) T.b_list (by decide +kernel) (pa_cons (pv 1) pa_nil))))
        pss_nil)
      (pss_cons (ps_if (pt_cmpR (op_eqA hr.units) (pv 3) pe_int (nomark _))
        (pss_one (ps_ret (pe_op op_addA (pv 1) (pe_tupX (pa_cons (pe_cg c_law_odd ng hr (by decide) (pa_cons (pv 0) (pa_cons (pe_ix ix_seq (pv 1) pe_int (fun _ _ => rfl)) pa_nil))) pa_nil)))))
        pss_nil)
      (pss_cons (ps_if (pt_cmpR (op_eqA hr.units) (pv 3) pe_int (nomark _))
        (pss_one (ps_ret (pe_op op_addA (pe_slice sl_all (pv 1) po_none (po_some pe_int)) (pe_callTy call_tupleX (by rfl) T.b_tuple (by decide +kernel) (pa_cons (pe_lc (own := [("_law_truth", 4)]) rfl sc_law_near.nd (pi_tup (pe_slice sl_all (pv 1) (po_some pe_int) po_none)) (blkOk_by (by rfl)) (fun _ _ _ _ _ => (pg_name (i := 4) sc_law_near.nd rfl (Or.inl rfl))) (fun _ _ _ _ _ => pts_nil) (fun _ _ _ _ _ => (pe_callTy call_intA (by rfl) T.b_int (by decide +kernel) (pa_cons (pv 4) pa_nil)))) pa_nil)))))
        pss_nil)
      (pss_cons (ps_if (pt_cmpR (op_eqA hr.units) (pv 3) pe_int (nomark _))
        (pss_one (ps_ret (pe_op op_addA (pe_revA (pe_slice sl_all (pv 1) po_none (po_some pe_int))) (pe_callTy call_tupleX (by rfl) T.b_tuple (by decide +kernel) (pa_cons (pe_lc (own := [("_law_truth", 4)]) rfl sc_law_near.nd (pi_tup (pe_slice sl_all (pv 1) (po_some pe_int) po_none)) (blkOk_by (by rfl)) (fun _ _ _ _ _ => (pg_name (i := 4) sc_law_near.nd rfl (Or.inl rfl))) (fun _ _ _ _ _ => pts_nil) (fun _ _ _ _ _ => (pe_not (pv 4)))) pa_nil)))))
        pss_nil)
      (pss_one (ps_ret (pe_ix ix_seq (pe_lst (pa_cons (pe_ix ix_seq (pv 1) pe_int (fun _ _ => rfl)) (pa_cons (pe_slice sl_all (pv 1) po_none (po_some pe_int)) (pa_cons (pv 1) pa_nil)))) (pe_cg c_law_take ng hr (by decide) (pa_cons (pv 0) (pa_cons pe_int pa_nil))) (fun _ _ => rfl))))))))))), ?_⟩
  refine bag_body h 3 fun F b l ds ⟨x, y, cs, ed, sx, sy, lc⟩ q => ?_
  subst ed
  refine ⟨rfl, ?_⟩
  have sx' := sx.sm (by decide)
  have sy' := sy.sm (by decide)
  have sc : ∀ d ∈ cs.map PyData.bool, smB d = true := fun d m => by
    obtain ⟨c, _, rfl⟩ := List.mem_map.mp m
    rfl
  have sxs : ∀ d ∈ (PyData.str x :: .str y :: cs.map PyData.bool), smB d = true := fun d m => by
    rcases List.mem_cons.mp m with e | m
    · exact e ▸ sx'
    · rcases List.mem_cons.mp m with e | m
      · exact e ▸ sy'
      · exact sc d m
  have lxs : (PyData.str x :: .str y :: cs.map PyData.bool).length ≤ 3 := by
    simp
    omega
  have i0 : atI (PyData.str x :: .str y :: cs.map PyData.bool) 0 = some (.str x) := atI_nat (j := 0) rfl
  have i1 : atI (PyData.str x :: .str y :: cs.map PyData.bool) 1 = some (.str y) := atI_nat (j := 1) rfl
  have fr : Gd.cutD (PyData.str x :: .str y :: cs.map PyData.bool) none (some 2) = [.str x, .str y] := cut_front
  have bk : Gd.cutD (PyData.str x :: .str y :: cs.map PyData.bool) (some 2) none = cs.map PyData.bool := cut_back
  have l0 : 0 < (PyData.str x :: .str y :: cs.map PyData.bool).length := Nat.succ_pos _
  generalize (PyData.str x :: .str y :: cs.map PyData.bool) = xs at *
  have fin : ∀ φ : PyData → Prop, (∀ d, φ d → postNear [.tuple xs] d) → ∀ v d H', St [H] F (some (b, l)) H' → Da F H' v d → φ d → Q v H' := fun φ h v d H' s' a' p' => q v d H' s' a' (h d p')
  refine ok_seq (ok_par (χ := fun ds => ∃ d e, ds = [d, e] ∧ (∃ i : Int, d = .int i ∧ 0 ≤ i ∧ i < xs.length) ∧ ∃ j : Int, e = .int j ∧ 0 ≤ j ∧ j < 7) (evs_two (ev_take rfl (ek_cb (eks_cons (ev_var rfl) evs_nil) (cd_lenT (K := K))) (by omega) (by omega)) (ev_take rfl ev_int (by decide) (by decide))) (fun ds ⟨d, e, q, _⟩ => by rw [q]; rfl) fun d e ⟨d', e', ed, ⟨i, e1, _⟩, j, e2, _⟩ => ?_)
  cases ed
  cases e1
  cases e2
  dsimp only
  have g1 : ∀ F, Ek [H] F (some (b, l)) (((Ab.bag :: absOf 3 [PyData.tuple xs]).set 2 (Ab.dat (PyData.int i))).set 3 (Ab.dat (PyData.int j))) (tVar 1) (.tuple xs) := fun F => ev_var rfl
  have g2 : ∀ F, Ek [H] F (some (b, l)) (((Ab.bag :: absOf 3 [PyData.tuple xs]).set 2 (Ab.dat (PyData.int i))).set 3 (Ab.dat (PyData.int j))) (tVar 2) (.int i) := fun F => ev_var rfl
  have g3 : ∀ F, Ek [H] F (some (b, l)) (((Ab.bag :: absOf 3 [PyData.tuple xs]).set 2 (Ab.dat (PyData.int i))).set 3 (Ab.dat (PyData.int j))) (tVar 3) (.int j) := fun F => ev_var rfl
  have f1 := ek_slT (K := K) (g1 F) ep_none (ep_some (g2 F))
  have f2 := ek_slT (K := K) (g1 F) (ep_some (ek_op (g2 F) (ev_int (i := 1)) (od_addI (K := K)))) ep_none
  have f3 := (ek_slT (K := K) (g1 F) ep_none (ep_some (ev_int (i := 2)))).is (congrArg PyData.tuple fr)
  have f4 := (ek_slT (K := K) (g1 F) (ep_some (ev_int (i := 2))) ep_none).is (congrArg PyData.tuple bk)
  have m1 : ∀ lo hi, ∀ d ∈ Gd.cutD xs lo hi, smB d = true := fun lo hi d m => sxs d (cutD_mem m)
  have z1 : ∀ lo hi, (Gd.cutD xs lo hi).length ≤ 3 := fun lo hi => Nat.le_trans cutD_len lxs
  have eo : ∀ {z : Str} {te : TE}, StrP z 40 → Ek [H] F (some (b, l)) (((Ab.bag :: absOf 3 [PyData.tuple xs]).set 2 (Ab.dat (PyData.int i))).set 3 (Ab.dat (PyData.int j))) te (.str z) →
      Ev [H] F (some (b, l)) (((Ab.bag :: absOf 3 [PyData.tuple xs]).set 2 (Ab.dat (PyData.int i))).set 3 (Ab.dat (PyData.int j))) (tTupX (tCons (tCall (SpB preOdd postOdd) [] E0 (tCons (tVar 0) (tCons te tNil))) tNil)) (fun d => ∃ z, d = .tuple [z] ∧ Th 3 8000 z) := fun sz h =>
    (ev_tup (evs_one (ev_callB (φ := fun d => Th 3 8000 d) (i := 0) (pre := preOdd) (post := postOdd) (E := E0) rfl (eks_cons h evs_nil) (fun ds e => ⟨_, e, sz⟩) (fun ds d e p => p))) (fun r ⟨d, e, _⟩ => by rw [e]; show 1 ≤ 100000; decide)).imp fun d ⟨r, e, z, e2, p⟩ => ⟨z, by rw [e, e2], p⟩
  have two : ∀ d ∈ [PyData.str x, .str y], smB d = true := fun d m => by
    simp at m
    rcases m with rfl | rfl
    · exact sx'
    · exact sy'
  have lb : (cs.map PyData.bool).length ≤ 100000 := by
    rw [List.length_map]
    omega
  have step : ∀ {n : Int} {ts us : TS} {D : Ends} {ab : List Ab}, Ek [H] F (some (b, l)) ab (tVar 3) (.int j) → Ok [H] F (some (b, l)) ts { D with nx := us D } ab → Ok [H] F (some (b, l)) us D ab →
      Ok [H] F (some (b, l)) (tSeq (tIfS (tTest (tOp (rEqA K) (tVar 3) (tC (.int n)))) ts tNext) us) D ab := fun e h1 h2 =>
    ok_seq (ok_ifK (etk_test (ek_op e ev_int od_eqI)) (fun _ => h1) fun _ => ok_next h2)
  refine step (g3 F) ?_ (step (g3 F) ?_ (step (g3 F) ?_ (step (g3 F) ?_ (step (g3 F) ?_ (step (g3 F) ?_ ?_)))))
  · refine ok_ret (φ := fun d => Th 5 20000 d) (ev_op (φ := fun d => ∃ z, d = .tuple (Gd.cutD xs none (some i) ++ [z]) ∧ Th 3 8000 z) (ev_op f1 (eo sx (ek_op (g1 F) ev_int (od_ixT (K := K) i0))) ?_) f2 ?_) (fin _ fun d h => h)
    · rintro d e rfl ⟨z, rfl, t⟩
      exact od_addT3 (Nat.le_succ_of_le (z1 _ _)) (by show 1 ≤ 4; decide) ⟨z, rfl, t⟩
    · rintro d e ⟨z, rfl, t⟩ rfl
      exact od_addT3 (by rw [List.length_append]; exact Nat.succ_le_succ (z1 _ _)) (Nat.le_succ_of_le (z1 _ _)) ((th_around (m1 _ _) (m1 _ _) t (z1 _ _) (z1 _ _)).wide (by decide) (by decide))
  · refine ok_ret (φ := fun d => Th 5 20000 d) (ev_op f1 f2 ?_) (fin _ fun d h => h)
    rintro d e rfl rfl
    refine od_addT3 (Nat.le_succ_of_le (z1 _ _)) (Nat.le_succ_of_le (z1 _ _)) ((th_smalls (fun d m => ?_) ?_).1.wide (by decide) (by decide))
    · rcases List.mem_append.mp m with m | m
      · exact m1 _ _ d m
      · exact m1 _ _ d m
    · rw [List.length_append]
      have := z1 none (some i)
      have := z1 (some (i + 1)) none
      omega
  · exact ok_ret (ek_cb (eks_cons (g1 F) evs_nil) (cd_listT (K := K))) (fin _ fun d h => h ▸ (th_smalls sxs (by omega)).2.wide (by decide) (by decide))
  · refine ok_ret (φ := fun d => Th 5 20000 d) (ev_op (g1 F) (eo sy (ek_op (g1 F) ev_int (od_ixT (K := K) i1))) ?_) (fin _ fun d h => h)
    rintro d e rfl ⟨z, rfl, t⟩
    refine od_addT3 (by omega) (by show 1 ≤ 4; decide) ?_
    have := th_around (ys := []) sxs (fun d m => nomatch m) t lxs (by decide)
    rw [List.append_nil] at this
    exact this.wide (by decide) (by decide)
  · refine ok_ret (φ := fun d => Th 5 20000 d) (ev_op (φ := (· = .tuple [.str x, .str y])) (ψ := (· = .tuple ((cs.map PyData.bool).map intD))) f3 (ek_cb (eks_cons (ek_lcMap (i := 4) (ds := cs.map PyData.bool) (f := intD) (by exact True.intro) (src_tup (K := K) (f4.imp fun d e => ⟨_, e, rfl, lb⟩)) fun k d ed F' => ?_) evs_nil) cd_tupleL) ?_) (fin _ fun d h => h)
    · obtain ⟨c, rfl⟩ := bool_at ed
      exact ek_cb (eks_cons (ev_var rfl) evs_nil) cd_intB
    · rintro d e rfl rfl
      refine od_addT3 (by show 2 ≤ 4; decide) (by rw [List.length_map, List.length_map]; omega) ((th_smalls (fun d m => ?_) ?_).1.wide (by decide) (by decide))
      · rcases List.mem_append.mp m with m | m
        · exact two d m
        · exact sm_intD cs d m
      · rw [List.length_append, List.length_map, List.length_map]
        show 2 + _ ≤ 8
        omega
  · refine ok_ret (φ := fun d => Th 5 20000 d) (ev_op (φ := (· = .tuple [.str y, .str x])) (ψ := (· = .tuple ((cs.map PyData.bool).map notD))) (ek_revA f3) (ek_cb (eks_cons (ek_lcMap (i := 4) (ds := cs.map PyData.bool) (f := notD) (by exact True.intro) (src_tup (K := K) (f4.imp fun d e => ⟨_, e, rfl, lb⟩)) fun k d ed F' => ?_) evs_nil) cd_tupleL) ?_) (fin _ fun d h => h)
    · obtain ⟨c, rfl⟩ := bool_at ed
      exact ek_notV (ev_var rfl)
    · rintro d e rfl rfl
      refine od_addT3 (by show 2 ≤ 4; decide) (by rw [List.length_map, List.length_map]; omega) ((th_smalls (fun d m => ?_) ?_).1.wide (by decide) (by decide))
      · rcases List.mem_append.mp m with m | m
        · simp at m
          rcases m with rfl | rfl
          · exact sy'
          · exact sx'
        · exact sm_notD cs d m
      · rw [List.length_append, List.length_map, List.length_map]
        show 2 + _ ≤ 8
        omega
  · refine ok_ret (φ := fun d => Th 5 20000 d) (ev_op (φ := (· = .list [.str x, .tuple [.str x, .str y], .tuple xs])) (ek_lst (eks_cons (ek_op (g1 F) ev_int (od_ixT (K := K) i0)) (eks_cons f3 (eks_cons (g1 F) evs_nil)))) (ev_take rfl ev_int (by decide) (by decide)) ?_) (fin _ fun d h => h)
    rintro d e rfl ⟨r, rfl, r0, r1⟩
    obtain ⟨z, h1, h2⟩ := atI_at (xs := [PyData.str x, .tuple [.str x, .str y], .tuple xs]) r0 r1
    intro F2 H2 u v Q2 tr a1 a2 q2
    refine od_ixL h1 F2 H2 u v Q2 tr a1 a2 fun v d H3 g a3 p3 => q2 v d H3 g a3 ?_
    subst p3
    rcases List.mem_cons.mp h2 with rfl | h2
    · exact (Sm.th sx').wide (by decide) (by decide)
    rcases List.mem_cons.mp h2 with rfl | h2
    · exact (th_smalls two (by show 2 ≤ 8; decide)).1.wide (by decide) (by decide)
    rcases List.mem_cons.mp h2 with rfl | h2
    · exact (th_smalls sxs (by omega)).1.wide (by decide) (by decide)
    · exact nomatch h2
end
end K11

/-! any values -/
namespace K11
open PySem PySem.Spec PyProof.Rows L2 Gd
theorem wide_text : ∀ k : Fin 31, PySem.intText? (("1" : Str) ++ repS "0" (k.val : Int)) = some ((10 : Int) ^ k.val) := by decide +kernel
theorem wide_len : ∀ k : Fin 31, (("1" : Str) ++ repS "0" (k.val : Int)).length ≤ 640 := by decide +kernel
theorem wide_small : ∀ k : Fin 31, ((10 : Int) ^ k.val).natAbs.log2 < 1000 := by decide +kernel
theorem cd_intS {z : Str} {n : Int} (h : PySem.intText? z = some n) (k : z.length ≤ 640) : CaD (fun xs H Q => ∃ a n, xs = [.str a] ∧ PySem.intText? a = some n ∧ a.length ≤ 640 ∧ Q (.int n) H) [.str z] (· = .int n) := fun F H vs Q _ a q => by
  cases a with
  | cons h1 h2 =>
    cases h2
    cases h1
    exact ⟨z, n, rfl, h, k, q _ _ H (Gr.refl _ H) (.int _) rfl⟩
def odds1 (x : Str) (n : Int) : List PyData := [.int 0, .int 1, .int (-1), .int n, .int (-n), .bool true, .bool false, .none, .str "", .str "A", .str "a1", .str "a b", .str x, .str (x ++ "z"), .str "abcdefgh"]
def odds2 (x : Str) : List PyData := [.str "abcdefghi", .list [], .tuple [], .dict [], .list [.str x], .tuple [.str x], .tuple [.str x, .str x], .tuple [.str x, .str "zz"], .list [.str x, .str "zz"]]
def odds3 (x : Str) : List PyData := [.tuple [.str x, .str "zz", .bool true]]
def odds4 (x : Str) : List PyData := [.tuple [.str x, .str "zz", .int 1], .tuple [.str x, .str x, .bool true], .tuple [.str x, .str "zz", .bool true, .bool true], .list [.str x, .str "zz", .bool false], .dict [(.str x, .int 1)]]
def odds5 (x : Str) : List PyData := [.tuple [.str x, .none], .tuple [.none, .str x], .tuple [.str x, .str "zz", .none], .tuple [.str "zz", .str x, .bool false], .tuple [.list [.str x], .str "zz"]]
def odds6 (x : Str) : List PyData := [.tuple [.str "zz", .dict [], .bool true], .tuple [.str "better"], .tuple [.int 1, .int 0, .bool true], .tuple [.str x, .str "zz", .int 0], .tuple [.str "", .str "a", .bool true], .str "\n", .list [.none]]
/-- what is asked of each, told by a test -/
def thB (d : PyData) : Bool := okd d && (decide (wt d ≤ 8000) && (decide (d.depth ≤ 3) && (!d.hasDict || !hasList d)))
theorem thB_th {d : PyData} (h : thB d = true) : Th 3 8000 d := by
  simp only [thB, Bool.and_eq_true, decide_eq_true_eq, Bool.or_eq_true, Bool.not_eq_true'] at h
  obtain ⟨h1, h2, h3, h4⟩ := h
  refine ⟨h1, h2, h3, fun k => ?_⟩
  rcases h4 with h4 | h4
  · rw [h4] at k
    cases k
  · exact h4
theorem odds_ok {x : Str} {n : Int} (sx : StrP x 40) (hn : n.natAbs.log2 < 1000) : ∀ d ∈ odds1 x n ++ odds2 x ++ odds3 x ++ odds4 x ++ odds5 x ++ odds6 x, Th 3 8000 d := by
  have a1 : smB (.str x) = true := sx.sm (by decide)
  have a2 : smB (.str (x ++ "z")) = true := StrP.sm (n := 41) (sx.app (y := "z") (m := 1) ⟨by decide, by decide⟩) (by decide)
  have a3 : smB (.int n) = true := by simp [smB, flatB, okd, hn]
  have a4 : smB (.int (-n)) = true := by simp [smB, flatB, okd, hn]
  have b1 : smB (.str "") = true ∧ smB (.str "A") = true ∧ smB (.str "a1") = true ∧ smB (.str "a b") = true ∧ smB (.str "abcdefgh") = true ∧ smB (.str "abcdefghi") = true ∧ smB (.str "zz") = true ∧ smB (.str "better") = true ∧ smB (.str "a") = true ∧ smB (.str "\n") = true := by decide +kernel
  obtain ⟨c1, c2, c3, c4, c5, c6, c7, c8, c9, c10⟩ := b1
  have e1 : smB (.int 0) = true ∧ smB (.int 1) = true ∧ smB (.int (-1)) = true ∧ smB .none = true ∧ smB (.bool true) = true ∧ smB (.bool false) = true := by decide +kernel
  obtain ⟨e1, e2, e3, e4, e5, e6⟩ := e1
  have one : ∀ {d : PyData}, smB d = true → Th 3 8000 d := fun h => (Sm.th h).wide (by decide) (by decide)
  have tup : ∀ {xs : List PyData}, (∀ d ∈ xs, smB d = true) → xs.length ≤ 4 → Th 3 8000 (.tuple xs) := fun h k => by
    obtain ⟨a1, a2, a3, a4, a5⟩ := sms_all h
    exact ⟨by simpa only [okd] using a1, by simp only [Gd.wt]; omega, by simp only [PyData.depth, a2]; omega, fun k => by simpa only [hasList] using a4⟩
  have lst : ∀ {xs : List PyData}, (∀ d ∈ xs, smB d = true) → xs.length ≤ 4 → Th 3 8000 (.list xs) := fun h k => by
    obtain ⟨a1, a2, a3, a4, a5⟩ := sms_all h
    refine ⟨by simpa only [okd] using a1, by simp only [Gd.wt]; omega, by simp only [PyData.depth, a2]; omega, fun k => ?_⟩
    simp only [PyData.hasDict, a3] at k
    cases k
  have d0 : Th 1 2000 (.dict []) := ⟨rfl, by decide, by decide, fun _ => rfl⟩
  have o1 : okd (.str x) = true := sx.ok (by decide)
  have w1 : Gd.wt (.str x) ≤ 1002 := sm_wt a1
  have d1 : Th 3 8000 (.dict [(.str x, .int 1)]) := by
    refine ⟨?_, ?_, by simp [PyData.depth, PyData.depthKv], fun _ => rfl⟩
    · show (okd (.str x) && okd (.int 1) && true) = true
      rw [o1]
      rfl
    · show 2 + (Gd.wt (.str x) + Gd.wt (.int 1) + 4 + 0) ≤ 8000
      have : Gd.wt (.int 1) ≤ 1002 := sm_wt e2
      omega
  have all1 : ∀ d ∈ odds1 x n, Th 3 8000 d := by simp [odds1, List.forall_mem_cons, one, *]
  have all2 : ∀ d ∈ odds2 x, Th 3 8000 d := by
    simp only [odds2, List.forall_mem_cons, List.not_mem_nil, false_imp_iff, implies_true, and_true]
    exact ⟨one c6, lst (by simp) (by simp), tup (by simp) (by simp), d0.wide (by decide) (by decide), lst (by simp [*]) (by simp), tup (by simp [*]) (by simp), tup (by simp [*]) (by simp), tup (by simp [*]) (by simp), lst (by simp [*]) (by simp)⟩
  have all3 : ∀ d ∈ odds3 x, Th 3 8000 d := by
    simp only [odds3, List.forall_mem_cons, List.not_mem_nil, false_imp_iff, implies_true, and_true]
    exact tup (by simp [*]) (by simp)
  have all4 : ∀ d ∈ odds4 x, Th 3 8000 d := by
    simp only [odds4, List.forall_mem_cons, List.not_mem_nil, false_imp_iff, implies_true, and_true]
    exact ⟨tup (by simp [*]) (by simp), tup (by simp [*]) (by simp), tup (by simp [*]) (by simp), lst (by simp [*]) (by simp), d1⟩
  have all5 : ∀ d ∈ odds5 x, Th 3 8000 d := by
    simp only [odds5, List.forall_mem_cons, List.not_mem_nil, false_imp_iff, implies_true, and_true]
    refine ⟨tup (by simp [*]) (by simp), tup (by simp [*]) (by simp), tup (by simp [*]) (by simp), tup (by simp [*]) (by simp), ?_⟩
    obtain ⟨f1, f2, f3, f4⟩ := sm_flat a1
    have f5 : okd (.str "zz") = true ∧ Gd.wt (.str "zz") ≤ 1002 := by decide +kernel
    refine ⟨?_, ?_, ?_, fun k => ?_⟩
    · show ((okd (.str x) && true) && (okd (.str "zz") && true)) = true
      rw [o1, f5.1]
      rfl
    · show 3 + ((2 + (Gd.wt (.str x) + 2 + 0)) + 2 + (Gd.wt (.str "zz") + 2 + 0)) ≤ 8000
      have := f5.2
      omega
    · simp [PyData.depth, PyData.depthAll]
    · simp [PyData.hasDict, PyData.hasDictAll] at k
  have all6 : ∀ d ∈ odds6 x, Th 3 8000 d := by
    simp only [odds6, List.forall_mem_cons, List.not_mem_nil, false_imp_iff, implies_true, and_true]
    exact ⟨⟨by decide +kernel, by decide +kernel, by decide +kernel, fun _ => by decide +kernel⟩, tup (by simp [*]) (by simp), tup (by simp [*]) (by simp), tup (by simp [*]) (by simp), tup (by simp [*]) (by simp), one c10, lst (by simp [*]) (by simp)⟩
  intro d m
  simp only [List.mem_append] at m
  rcases m with ((((m | m) | m) | m) | m) | m
  · exact all1 d m
  · exact all2 d m
  · exact all3 d m
  · exact all4 d m
  · exact all5 d m
  · exact all6 d m
section
variable {P : Program} {w : World} {K : PySem.W.Frag} {mg : Str → Option Value} {base : Heap}
abbrev s_law_odd : Stmt := top 35
theorem sc_law_odd : FnScope ["_law_bag_here", "_law_name", "_law_wide", "_law_some"] ["_law_bag_here", "_law_name"] (defScope s_law_odd) := ⟨rfl, rfl, rfl, by decide +kernel, rfl, by decide +kernel, by decide +kernel⟩
theorem ek_addL {Hi : List Hp} {F : List Addr} {B : Bag} {ab : List Ab} {te tf : TE} {xs ys : List PyData} (h : Ek Hi F B ab te (.list xs)) (k : Ek Hi F B ab tf (.list ys)) (z : xs.length + ys.length ≤ 100000) : Ek Hi F B ab (tOp (rAddA K) te tf) (.list (xs ++ ys)) := ek_op h k (od_addL z)
theorem ek_addLs {Hi : List Hp} {F : List Addr} {B : Bag} {ab : List Ab} {te : TE} {ta : TA} {xs ys : List PyData} (h : Ek Hi F B ab te (.list xs)) (k : Eks Hi F B ab ta ys) (z : xs.length + ys.length ≤ 100000) : Ek Hi F B ab (tOp (rAddA K) te (tLst ta)) (.list (xs ++ ys)) := ek_addL h (ek_lst k (by omega)) z
theorem ok_odd (X : K.In base) (G : base.Ns mainGlobals mg) (T : Txt mg) (D : DefAt K "_law_odd" s_law_odd) (c_law_take : CalG P w K mg base 1 "_law_take" (SpB preTake postTake)) (c_law_pick : CalG P w K mg base 2 "_law_pick" (SpB prePick postPick)) :
    CalG P w K mg base 3 "_law_odd" (SpB preOdd postOdd) := by
  refine calG_of X G D sc_law_odd (fun _ _ _ _ _ _ us hl => match us, hl with | [_, _], _ => rfl) (fun vs H Q E h => spB_len1 h fun ds ⟨x, e, _⟩ => e ▸ rfl) (fun f cdv A outer s H vs Q E ng hr h => ?_)
  refine ⟨_, (pss_cons (ps_set (i := 2) sc_law_odd.nd rfl (Or.inl rfl) (pe_callTy call_int_str (by rfl) T.b_int (by decide +kernel) (pa_cons (pe_op op_addA pe_str (pe_op op_repS pe_str (pe_cg c_law_take ng hr (by decide) (pa_cons (pv 0) (pa_cons pe_int pa_nil))))) pa_nil)))
      (pss_cons (ps_set (i := 3) sc_law_odd.nd rfl (Or.inl rfl) (pe_lst (pa_cons pe_int (pa_cons pe_int (pa_cons (pe_un un_neg pe_int) (pa_cons (pv 2) (pa_cons (pe_un un_neg (pv 2)) (pa_cons pe_bl (pa_cons pe_bl (pa_cons pe_non (pa_cons pe_str (pa_cons pe_str (pa_cons pe_str (pa_cons pe_str (pa_cons (pv 1) (pa_cons (pe_op op_addA (pv 1) pe_str) (pa_cons pe_str pa_nil)))))))))))))))))
      (pss_cons (ps_set (i := 3) sc_law_odd.nd rfl (Or.inl rfl) (pe_op op_addA (pv 3) (pe_lst (pa_cons pe_str (pa_cons (pe_lst pa_nil) (pa_cons (pe_tupX pa_nil) (pa_cons pe_dnewK (pa_cons (pe_lst (pa_cons (pv 1) pa_nil)) (pa_cons (pe_tupX (pa_cons (pv 1) pa_nil)) (pa_cons (pe_tupX (pa_cons (pv 1) (pa_cons (pv 1) pa_nil))) (pa_cons (pe_tupX (pa_cons (pv 1) (pa_cons pe_str pa_nil))) (pa_cons (pe_lst (pa_cons (pv 1) (pa_cons pe_str pa_nil))) pa_nil))))))))))))
      (pss_cons (ps_set (i := 3) sc_law_odd.nd rfl (Or.inl rfl) (pe_op op_addA (pv 3) (pe_lst (pa_cons (pe_tupX (pa_cons (pv 1) (pa_cons pe_str (pa_cons pe_bl pa_nil)))) pa_nil))))
      (pss_cons (ps_set (i := 3) sc_law_odd.nd rfl (Or.inl rfl) (pe_op op_addA (pv 3) (pe_lst (pa_cons (pe_tupX (pa_cons (pv 1) (pa_cons pe_str (pa_cons pe_int pa_nil)))) (pa_cons (pe_tupX (pa_cons (pv 1) (pa_cons (pv 1) (pa_cons pe_bl pa_nil)))) (pa_cons (pe_tupX (pa_cons (pv 1) (pa_cons pe_str (pa_cons pe_bl (pa_cons pe_bl pa_nil))))) (pa_cons (pe_lst (pa_cons (pv 1) (pa_cons pe_str (pa_cons pe_bl pa_nil)))) (pa_cons (pe_disp (pps_cons (pv 1) pe_int pps_nil) (by rfl) (by rfl) (fun z => by cases z) (by decide)) pa_nil))))))))
      (pss_cons (ps_set (i := 3) sc_law_odd.nd rfl (Or.inl rfl) (pe_op op_addA (pv 3) (pe_lst (pa_cons (pe_tupX (pa_cons (pv 1) (pa_cons pe_non pa_nil))) (pa_cons (pe_tupX (pa_cons pe_non (pa_cons (pv 1) pa_nil))) (pa_cons (pe_tupX (pa_cons (pv 1) (pa_cons pe_str (pa_cons pe_non pa_nil)))) (pa_cons (pe_tupX (pa_cons pe_str (pa_cons (pv 1) (pa_cons pe_bl pa_nil)))) (pa_cons (pe_tupX (pa_cons (pe_lst (pa_cons (pv 1) pa_nil)) (pa_cons pe_str pa_nil))) pa_nil))))))))
      (pss_cons (ps_set (i := 3) sc_law_odd.nd rfl (Or.inl rfl) (pe_op op_addA (pv 3) (pe_lst (pa_cons (pe_tupX (pa_cons pe_str (pa_cons pe_dnewK (pa_cons pe_bl pa_nil)))) (pa_cons (pe_tupX (pa_cons pe_str pa_nil)) (pa_cons (pe_tupX (pa_cons pe_int (pa_cons pe_int (pa_cons pe_bl pa_nil)))) (pa_cons (pe_tupX (pa_cons (pv 1) (pa_cons pe_str (pa_cons pe_int pa_nil)))) (pa_cons (pe_tupX (pa_cons pe_str (pa_cons pe_str (pa_cons pe_bl pa_nil)))) (pa_cons pe_str (pa_cons (pe_lst (pa_cons pe_non pa_nil)) pa_nil))))))))))
      (pss_one (ps_ret (pe_cg c_law_pick ng hr (by decide) (pa_cons (pv 0) (pa_cons (pv 3) pa_nil)))))))))))), ?_⟩
  refine bag_body h 2 fun F b l ds ⟨x, ed, sx⟩ q => ?_
  subst ed
  refine ⟨rfl, ?_⟩
  refine ok_seq (ok_asg (φ := fun d => ∃ k : Fin 31, d = .int ((10 : Int) ^ k.val)) (ev_cb (χ := fun ds => ∃ d, ds = [d] ∧ ∃ k : Fin 31, d = .str (("1" : Str) ++ repS "0" (k.val : Int))) (evs_one (ev_op (φ := (· = .str "1")) (ψ := fun d => ∃ k : Fin 31, d = .str (repS "0" (k.val : Int))) ev_str
    (ev_op (φ := (· = .str "0")) ev_str (ev_take rfl ev_int (by decide) (by decide)) ?_) ?_)) ?_) fun d ⟨k, ed⟩ => ?_)
  · rintro d e rfl ⟨r, rfl, r0, r1⟩
    intro F2 H2 u v Q2 tr a1 a2 q2
    refine od_repS (z := "0") (n := r) rfl r0 (by omega) F2 H2 u v Q2 tr a1 a2 fun v d H3 g a3 p3 => q2 v d H3 g a3 ⟨⟨r.toNat, by omega⟩, ?_⟩
    rw [p3]
    show PyData.str (repS "0" r) = PyData.str (repS "0" ((r.toNat : Nat) : Int))
    rw [show ((r.toNat : Nat) : Int) = r by omega]
  · rintro d e rfl ⟨k, rfl⟩
    intro F2 H2 u v Q2 tr a1 a2 q2
    have := wide_len k
    rw [strLen_append] at this
    exact od_addS (by omega) F2 H2 u v Q2 tr a1 a2 fun v d H3 g a3 p3 => q2 v d H3 g a3 ⟨k, p3⟩
  · rintro ds ⟨d, rfl, k, rfl⟩
    intro F2 H2 vs Q2 tr a1 q2
    exact cd_intS (wide_text k) (wide_len k) F2 H2 vs Q2 tr a1 fun v d H3 g a3 p3 => q2 v d H3 g a3 ⟨k, p3⟩
  subst ed
  have hn := wide_small k
  generalize (10 : Int) ^ k.val = n at *
  dsimp only
  refine ok_seq ?_
  refine ok_asgK (i := 3) (d := .list (odds1 x n)) (ek_lst (z := by show 15 ≤ 100000; decide) (eks_cons ev_int (eks_cons ev_int (eks_cons (ek_neg ev_int) (eks_cons (ev_var rfl) (eks_cons (ek_neg (ev_var rfl)) (eks_cons ev_bl (eks_cons ev_bl (eks_cons ev_non (eks_cons ev_str (eks_cons ev_str (eks_cons ev_str (eks_cons ev_str (eks_cons (ev_var rfl)
    (eks_cons (ek_op (ev_var rfl) ev_str (od_addS (by have := sx.len; show _ + 1 ≤ _; omega))) (eks_cons ev_str evs_nil)))))))))))))))) ?_
  dsimp only
  refine ok_seq ?_
  refine ok_asgK (i := 3) (d := .list (odds1 x n ++ odds2 x)) (ek_addLs (ev_var rfl) ((eks_cons ev_str (eks_cons (ek_lst evs_nil) (eks_cons (ek_tup evs_nil) (eks_cons ek_dnew (eks_cons (ek_lst (eks_cons (ev_var rfl) evs_nil)) (eks_cons (ek_tup (eks_cons (ev_var rfl) evs_nil))
    (eks_cons (ek_tup (eks_cons (ev_var rfl) (eks_cons (ev_var rfl) evs_nil))) (eks_cons (ek_tup (eks_cons (ev_var rfl) (eks_cons ev_str evs_nil))) (eks_cons (ek_lst (eks_cons (ev_var rfl) (eks_cons ev_str evs_nil))) evs_nil)))))))))) (by show 15 + 9 ≤ 100000; decide)) ?_
  dsimp only
  refine ok_seq ?_
  refine ok_asgK (i := 3) (d := .list (odds1 x n ++ odds2 x ++ odds3 x)) (ek_addLs (ev_var rfl) ((eks_cons (ek_tup (eks_cons (ev_var rfl) (eks_cons ev_str (eks_cons ev_bl evs_nil)))) evs_nil)) (by show 24 + 1 ≤ 100000; decide)) ?_
  dsimp only
  refine ok_seq ?_
  refine ok_asgK (i := 3) (d := .list (odds1 x n ++ odds2 x ++ odds3 x ++ odds4 x)) (ek_addLs (ev_var rfl) ((eks_cons (ek_tup (eks_cons (ev_var rfl) (eks_cons ev_str (eks_cons ev_int evs_nil)))) (eks_cons (ek_tup (eks_cons (ev_var rfl) (eks_cons (ev_var rfl) (eks_cons ev_bl evs_nil))))
    (eks_cons (ek_tup (eks_cons (ev_var rfl) (eks_cons ev_str (eks_cons ev_bl (eks_cons ev_bl evs_nil))))) (eks_cons (ek_lst (eks_cons (ev_var rfl) (eks_cons ev_str (eks_cons ev_bl evs_nil)))) (eks_cons (ek_disp1 (ev_var rfl) ev_int) evs_nil)))))) (by show 25 + 5 ≤ 100000; decide)) ?_
  dsimp only
  refine ok_seq ?_
  refine ok_asgK (i := 3) (d := .list (odds1 x n ++ odds2 x ++ odds3 x ++ odds4 x ++ odds5 x)) (ek_addLs (ev_var rfl) ((eks_cons (ek_tup (eks_cons (ev_var rfl) (eks_cons ev_non evs_nil))) (eks_cons (ek_tup (eks_cons ev_non (eks_cons (ev_var rfl) evs_nil)))
    (eks_cons (ek_tup (eks_cons (ev_var rfl) (eks_cons ev_str (eks_cons ev_non evs_nil)))) (eks_cons (ek_tup (eks_cons ev_str (eks_cons (ev_var rfl) (eks_cons ev_bl evs_nil)))) (eks_cons (ek_tup (eks_cons (ek_lst (eks_cons (ev_var rfl) evs_nil)) (eks_cons ev_str evs_nil))) evs_nil)))))) (by show 30 + 5 ≤ 100000; decide)) ?_
  dsimp only
  refine ok_seq ?_
  refine ok_asgK (i := 3) (d := .list (odds1 x n ++ odds2 x ++ odds3 x ++ odds4 x ++ odds5 x ++ odds6 x)) (ek_addLs (ev_var rfl) ((eks_cons (ek_tup (eks_cons ev_str (eks_cons ek_dnew (eks_cons ev_bl evs_nil)))) (eks_cons (ek_tup (eks_cons ev_str evs_nil)) (eks_cons (ek_tup (eks_cons ev_int (eks_cons ev_int (eks_cons ev_bl evs_nil))))
    (eks_cons (ek_tup (eks_cons (ev_var rfl) (eks_cons ev_str (eks_cons ev_int evs_nil)))) (eks_cons (ek_tup (eks_cons ev_str (eks_cons ev_str (eks_cons ev_bl evs_nil)))) (eks_cons ev_str (eks_cons (ek_lst (eks_cons ev_non evs_nil)) evs_nil)))))))) (by show 35 + 7 ≤ 100000; decide)) ?_
  dsimp only
  refine ok_ret (φ := fun d => Th 3 8000 d) (ev_callB (i := 0) (pre := prePick) (post := postPick) (E := E0) rfl (eks_cons (ev_var rfl) evs_nil) (fun ds e => ⟨_, e, (by simp [odds1]), by show 42 ≤ 100000; decide⟩) (fun ds d e ⟨xs, e', m⟩ => ?_)) fun v r H' s' a' p => q v r H' s' a' p
  subst e
  cases e'
  exact odds_ok sx hn d m
end
end K11

/-! two names -/
namespace K11
open PySem PySem.Spec PyProof.Rows L2 Gd
def NmL (xs : List PyData) : Prop := ∀ d ∈ xs, ∃ x, d = .str x ∧ StrP x 40
theorem NmL.shp {xs : List PyData} (h : NmL xs) : ShpL xs := fun d m => by
  obtain ⟨x, rfl, sx⟩ := h d m
  refine ⟨?_, Nat.zero_le _⟩
  simp only [PyData.canLay0]
  show x.cps.all (· < 1114112) = true
  rw [Array.all_eq_true']
  intro c mc
  exact decide_eq_true (sx.cps c (by simpa using mc))
def postNames (ds : List PyData) (r : PyData) : Prop := ∃ x y, r = .list [.str x, .str y] ∧ StrP x 40 ∧ StrP y 40
theorem two_perm {xs ys : List PyData} (h : NmL xs) (l : xs.length = 2) (p : ys.Perm xs) : ∃ x y, PyData.list ys = .list [.str x, .str y] ∧ StrP x 40 ∧ StrP y 40 := by
  have lz := p.length_eq
  match ys, lz with
  | [a, b], _ =>
    obtain ⟨x, rfl, sx⟩ := h a (p.subset (by simp))
    obtain ⟨y, rfl, sy⟩ := h b (p.subset (by simp))
    exact ⟨x, y, rfl, sx, sy⟩
  | [], z => rw [l] at z; exact nomatch z
  | [_], z => rw [l] at z; exact nomatch z
  | _ :: _ :: _ :: _, z => rw [l] at z; simp at z
def abc26 : Str := "abcdefghijklmnopqrstuvwxyz"
def wordsL : List PyData := [.str "better", .str "not", .str "things", .str "step", .str "say", .str "a", .str "aa", .str "none", .str "reached", .str "open", .str "zzzzzzzz"]
theorem strP_of {s : String} (h : ((s : Str).cps.toList.all (· < 1114112) && decide ((s : Str).length ≤ 40)) = true) : StrP (s : Str) 40 := by
  have h' := Bool.and_eq_true_iff.mp h
  refine ⟨fun c m => ?_, by simpa using h'.2⟩
  have := List.all_eq_true.mp h'.1 c m
  simpa using this
theorem words_nm : NmL wordsL := by
  simp only [NmL, wordsL, List.forall_mem_cons, List.not_mem_nil, false_imp_iff, implies_true, and_true]
  refine ⟨⟨_, rfl, strP_of ?_⟩, ⟨_, rfl, strP_of ?_⟩, ⟨_, rfl, strP_of ?_⟩, ⟨_, rfl, strP_of ?_⟩, ⟨_, rfl, strP_of ?_⟩, ⟨_, rfl, strP_of ?_⟩, ⟨_, rfl, strP_of ?_⟩, ⟨_, rfl, strP_of ?_⟩, ⟨_, rfl, strP_of ?_⟩, ⟨_, rfl, strP_of ?_⟩, ⟨_, rfl, strP_of ?_⟩⟩ <;> decide +kernel
theorem signs_nm {x : Str} (h : ∀ c ∈ x.cps.toList, c < 1114112) : NmL (Gd.signs x) := fun d m => by
  obtain ⟨y, e, s⟩ := StrP.sign h m
  exact ⟨y, e, s.wide (by decide)⟩
theorem abc_cps : ∀ c ∈ abc26.cps.toList, c < 1114112 := by decide +kernel
theorem letter_at {i : Int} (h0 : 0 ≤ i) (h1 : i < 26) : ∃ c, atI abc26.cps.toList i = some c ∧ StrP ⟨#[c]⟩ 1 := by
  obtain ⟨c, e, m⟩ := atI_at (xs := abc26.cps.toList) h0 (by show i < ((abc26.cps.toList.length : Nat) : Int); have : abc26.cps.toList.length = 26 := by decide +kernel
                                                             rw [this]; exact h1)
  refine ⟨c, e, fun c' m' => ?_, Nat.le_refl _⟩
  have e' : c' = c := by simpa using m'
  exact e' ▸ abc_cps c m
theorem cut_len2 {xs : List PyData} (h : 2 ≤ xs.length) : (Gd.cutD xs none (some 2)).length = 2 := by
  rw [cut_front, List.length_take]
  omega
theorem cut_from {xs : List PyData} {r : Nat} (h : r ≤ xs.length) : (Gd.cutD xs (some (r : Int)) none).length = xs.length - r := by
  unfold Gd.cutD
  rw [HT.sIx_nat, Nat.min_eq_left h, List.length_take, List.length_drop]
  show min (xs.length - r) (xs.length - r) = _
  omega
theorem NmL.cut {xs : List PyData} (h : NmL xs) (lo hi : Option Int) : NmL (Gd.cutD xs lo hi) := fun d m => h d (cutD_mem m)
theorem join_strP {ys : List Str} (h : ∀ y ∈ ys, StrP y 1) : StrP (Txt.join Str.empty ys) ys.length := by
  have e := join0 ys
  refine ⟨fun c m => ?_, ?_⟩
  · rw [e] at m
    obtain ⟨z, mz, mc⟩ := List.mem_flatten.mp m
    obtain ⟨y, my, rfl⟩ := List.mem_map.mp mz
    exact (h y my).cps c mc
  · have l : (Txt.join Str.empty ys).length = (Txt.join Str.empty ys).cps.toList.length := by simp; rfl
    rw [l, e]
    clear e l
    induction ys with
    | nil => exact Nat.le_refl _
    | cons y ys ih =>
      have h1 := (h y List.mem_cons_self).len
      have h2 := ih fun z m => h z (List.mem_cons_of_mem _ m)
      rw [List.map_cons, List.flatten_cons, List.length_append, List.length_cons]
      have : y.cps.toList.length = y.length := by simp; rfl
      omega
theorem sum_le : ∀ {ys : List Str}, (∀ y ∈ ys, StrP y 1) → (ys.map (·.length)).sum ≤ ys.length
  | [], _ => Nat.le_refl _
  | y :: ys, h => by
    rw [List.map_cons, List.sum_cons, List.length_cons]
    have a := (h y List.mem_cons_self).len
    have b := sum_le fun z m => h z (List.mem_cons_of_mem _ m)
    omega
theorem texts_of {out : List PyData} (h : ∀ d ∈ out, ∃ x, d = .str x ∧ StrP x 1) : ∃ ys : List Str, out = ys.map PyData.str ∧ ∀ y ∈ ys, StrP y 1 := by
  induction out with
  | nil => exact ⟨[], rfl, fun y m => nomatch m⟩
  | cons d out ih =>
    obtain ⟨x, e, s⟩ := h d List.mem_cons_self
    obtain ⟨ys, e2, s2⟩ := ih fun z m => h z (List.mem_cons_of_mem _ m)
    refine ⟨x :: ys, by rw [e, e2]; rfl, fun y m => ?_⟩
    rcases List.mem_cons.mp m with rfl | m
    · exact s
    · exact s2 y m
section
variable {P : Program} {w : World} {K : PySem.W.Frag} {mg : Str → Option Value} {base : Heap}
theorem ok_asg2v {Hi : List Hp} {F : List Addr} {B : Bag} {ab : List Ab} {te : TE} {i j : Nat} {D : Ends} {χ : PyData → PyData → Prop} (h : Ev Hi F B ab te (fun d => ∃ d1 d2, d = .tuple [d1, d2] ∧ χ d1 d2)) (k : ∀ d1 d2, χ d1 d2 → OkK Hi F B D.nx ((ab.set i (.dat d1)).set j (.dat d2))) :
    Ok Hi F B (tAsg te (gTup K 2 (gCons (gName i) (gCons (gName j) gNil)))) D ab := fun σ H s l =>
  h σ H _ s l fun v w H1 c1 s1 a1 ⟨d1, d2, e, p⟩ => by
    subst e
    cases a1 with
    | @tup a xs _ nf hx kx =>
      cases kx with
      | cons b1 kx =>
        cases kx with
        | cons b2 kx =>
          cases kx
          exact ⟨a, _, rfl, hx.seq, rfl, _, _, rfl, _, _, rfl, rfl, k d1 d2 p _ H1 s1 (Sl.set (a := .dat _) (Sl.set (a := .dat _) (l.gr (Ch.wide c1 s)) ⟨_, rfl, b1⟩) ⟨_, rfl, b2⟩)⟩
theorem ok_asg2l {Hi : List Hp} {F : List Addr} {B : Bag} {ab : List Ab} {te : TE} {i j : Nat} {D : Ends} {χ : PyData → PyData → Prop} (h : Ev Hi F B ab te (fun d => ∃ d1 d2, d = .list [d1, d2] ∧ χ d1 d2)) (k : ∀ d1 d2, χ d1 d2 → OkK Hi F B D.nx ((ab.set i (.dat d1)).set j (.dat d2))) :
    Ok Hi F B (tAsg te (gLst K 2 (gCons (gName i) (gCons (gName j) gNil)))) D ab := fun σ H s l =>
  h σ H _ s l fun v w H1 c1 s1 a1 ⟨d1, d2, e, p⟩ => by
    subst e
    cases a1 with
    | @lst a xs _ nf hx kx =>
      cases kx with
      | cons b1 kx =>
        cases kx with
        | cons b2 kx =>
          cases kx
          exact ⟨a, _, rfl, .inl (.inl hx), rfl, _, _, rfl, _, _, rfl, rfl, k d1 d2 p _ H1 s1 (Sl.set (a := .dat _) (Sl.set (a := .dat _) (l.gr (Ch.wide c1 s)) ⟨_, rfl, b1⟩) ⟨_, rfl, b2⟩)⟩
theorem cd_intI {i : Int} : CaD rIntA [.int i] (· = .int i) := fun F H vs Q _ a q => by
  cases a with
  | cons h1 h2 =>
    cases h2
    cases h1
    exact .inl ⟨i, rfl, q _ _ H (Gr.refl _ H) (.int _) rfl⟩
abbrev s_law_names : Stmt := top 29
theorem sc_law_names : FnScope ["_law_bag_here", "_law_many", "_law_letters", "_law_words", "_law_stem", "_law_way", "_law_turn", "_law_k"] ["_law_bag_here", "_law_many"] (defScope s_law_names) := ⟨rfl, rfl, rfl, by decide +kernel, rfl, by decide +kernel, by decide +kernel⟩
def preNames (ds : List PyData) : Prop := ds = [.int 2]
theorem ok_names (X : K.In base) (G : base.Ns mainGlobals mg) (T : Txt mg) (D : DefAt K "_law_names" s_law_names) (c_law_take : CalG P w K mg base 1 "_law_take" (SpB preTake postTake)) (c_law_mix : CalG P w K mg base 2 "_law_mix" (SpB preMix postMix)) :
    CalG P w K mg base 3 "_law_names" (SpB preNames postNames) := by
  refine calG_of X G D sc_law_names (fun _ _ _ _ _ _ us hl => match us, hl with | [_, _], _ => rfl) (fun vs H Q E h => spB_len1 h fun ds e => e ▸ rfl) (fun f cdv A outer s H vs Q E ng hr h => ?_)
  refine ⟨_, (pss_cons (ps_asg (pe_tupX (pa_cons (pe_cg c_law_take ng hr (by decide) (pa_cons (pv 0) (pa_cons pe_int pa_nil))) (pa_cons (pe_cg c_law_take ng hr (by decide) (pa_cons (pv 0) (pa_cons pe_int pa_nil))) pa_nil))) (pg_tup rfl (pgs_cons (pg_name (i := 5) sc_law_names.nd rfl (Or.inl rfl)) (pgs_cons (pg_name (i := 6) sc_law_names.nd rfl (Or.inr rfl)) pgs_nil))))
      (pss_cons (ps_set (i := 2) sc_law_names.nd rfl (Or.inr rfl) pe_str)
      (pss_cons (ps_set (i := 3) sc_law_names.nd rfl (Or.inl rfl) (pe_lst (pa_cons pe_str (pa_cons pe_str (pa_cons pe_str (pa_cons pe_str (pa_cons pe_str (pa_cons pe_str (pa_cons pe_str (pa_cons pe_str (pa_cons pe_str (pa_cons pe_str (pa_cons pe_str pa_nil)))))))))))))
      (pss_cons (ps_if (pt_cmpR (op_eqA hr.units) (pv 5) pe_int (nomark _))
        (pss_one (ps_ret (pe_cg c_law_mix ng hr (by decide) (pa_cons (pv 0) (pa_cons (pe_slice sl_all (pe_callTy (call_listA rfl) (by rfl) T.b_list (by decide +kernel) (pa_cons pe_str pa_nil)) po_none (po_some (pv 1))) pa_nil)))))
        pss_nil)
      (pss_cons (ps_if (pt_cmpR (op_eqA hr.units) (pv 5) pe_int (nomark _))
        (pss_one (ps_ret (pe_cg c_law_mix ng hr (by decide) (pa_cons (pv 0) (pa_cons (pe_slice sl_all (pe_slice sl_all (pe_op op_addA (pv 3) (pv 3)) (po_some (pe_op op_mod (pe_callTy call_intA (by rfl) T.b_int (by decide +kernel) (pa_cons (pv 6) pa_nil)) pe_int)) po_none) po_none (po_some (pv 1))) pa_nil)))))
        pss_nil)
      (pss_cons (ps_set (i := 4) sc_law_names.nd rfl (Or.inr rfl) (pe_bm PySem.F.plainAttrs_str PySem.F.slot_str_join PySem.F.type_str_join mt_join pe_str (pa_cons (pe_lc (own := [("_law_k", 7)]) rfl sc_law_names.nd (pi_range1 (by rfl) T.b_range (pa_cons (pe_cg c_law_take ng hr (by decide) (pa_cons (pv 0) (pa_cons pe_int pa_nil))) pa_nil)) (blkOk_by (by rfl)) (fun _ _ _ _ _ => (pg_name (i := 7) sc_law_names.nd rfl (Or.inl rfl))) (fun _ _ _ _ _ => pts_nil) (fun _ _ _ _ _ => (pe_ix (r := rIx K) ix_seq (pv 2) (pe_cg c_law_take ng hr (by decide) (pa_cons (pv 0) (pa_cons pe_int pa_nil))) (fun _ _ => rfl)))) pa_nil)))
      (pss_one (ps_ret (pe_cg c_law_mix ng hr (by decide) (pa_cons (pv 0) (pa_cons (pe_lc (own := [("_law_k", 7)]) rfl sc_law_names.nd (pi_range1 (by rfl) T.b_range (pa_cons (pv 1) pa_nil)) (blkOk_by (by rfl)) (fun _ _ _ _ _ => (pg_name (i := 7) sc_law_names.nd rfl (Or.inl rfl))) (fun _ _ _ _ _ => pts_nil) (fun _ _ _ _ _ => (pe_op (r := rAddA K) op_addA (pv 4) (pe_ix (r := rIx K) ix_seq (pv 2) (pe_op op_mod (pe_callTy call_intA (by rfl) T.b_int (by decide +kernel) (pa_cons (pe_op (r := rAddA K) op_addA (pv 6) (pe_op (r := rMulA) op_mulA pe_int (pv 7))) pa_nil)) pe_int) (fun _ _ => rfl))))) pa_nil))))))))))), ?_⟩
  refine bag_body h 6 fun F b l ds ed q => ?_
  cases ed
  refine ⟨rfl, ?_⟩
  have em : ∀ {F : List Addr} {ab : List Ab} {te : TE} {xs : List PyData}, ab[0]? = some .bag → Ek [H] F (some (b, l)) ab te (.list xs) → NmL xs → xs.length = 2 → Ev [H] F (some (b, l)) ab (tCall (SpB preMix postMix) [] E0 (tCons (tVar 0) (tCons te tNil))) (postNames [.int 2]) := fun h0 h1 h2 h3 =>
    ev_callB h0 (eks_cons h1 evs_nil) (fun ds e => ⟨_, e, h2.shp, by omega⟩) fun ds d e ⟨xs, ys, e1, e2, p⟩ => by
      rw [e] at e1
      cases e1
      rw [e2]
      exact two_perm h2 h3 p
  have fin : ∀ v d H', St [H] F (some (b, l)) H' → Da F H' v d → postNames [.int 2] d → Q v H' := q
  refine ok_seq (ok_asg2v (K := K) (i := 5) (j := 6) (χ := fun d1 d2 => (∃ i : Int, d1 = .int i) ∧ ∃ t : Int, d2 = .int t) ((ev_tup (evs_two (ev_take rfl ev_int (by decide) (by decide)) (ev_take rfl ev_int (by decide) (by decide))) (fun r ⟨d, e, q, _⟩ => by rw [q]; show 2 ≤ 100000; decide)).imp fun d ⟨r, e, d1, d2, e2, ⟨i, e3, _⟩, t, e4, _⟩ => ⟨d1, d2, by rw [e, e2], ⟨i, e3⟩, t, e4⟩) fun d1 d2 ⟨⟨i, e1⟩, t, e2⟩ => ?_)
  subst e1 e2
  dsimp only
  refine ok_seq ?_
  refine ok_asgK (i := 2) (d := .str abc26) ev_str ?_
  dsimp only
  refine ok_seq ?_
  refine ok_asgK (i := 3) (d := .list wordsL) (ek_lst (z := by show 11 ≤ 100000; decide) (eks_cons ev_str (eks_cons ev_str (eks_cons ev_str (eks_cons ev_str (eks_cons ev_str (eks_cons ev_str (eks_cons ev_str (eks_cons ev_str (eks_cons ev_str (eks_cons ev_str (eks_cons ev_str evs_nil)))))))))))) ?_
  dsimp only
  refine ok_seq (ok_ifK (etk_test (ek_op (d := .int i) (ev_var rfl) ev_int od_eqI)) (fun _ => ok_ret (em rfl (ek_slL (ek_cb (eks_cons ev_str evs_nil) (cd_listS (by decide))) ep_none (ep_some (ev_var rfl))) ((signs_nm (by decide +kernel)).cut _ _) (cut_len2 (by decide +kernel))) fin) fun _ => ok_next ?_)
  refine ok_seq (ok_ifK (etk_test (ek_op (d := .int i) (ev_var rfl) ev_int od_eqI)) (fun _ => ok_ret (em rfl (ek_slL (ek_slL (ek_op (ev_var rfl) (ev_var rfl) (od_addL (xs := wordsL) (ys := wordsL) (by decide))) (ep_some (ek_op (ek_cb (eks_cons (ev_var rfl) evs_nil) (cd_intI (i := t))) (ev_int (i := 11)) (od_I (by show (0 : Int) < 11; decide)))) ep_none) ep_none (ep_some (ev_var rfl))) (NmL.cut (NmL.cut (fun d m => ?_) _ _) _ _) (cut_len2 ?_)) fin) fun _ => ok_next ?_)
  · rcases List.mem_append.mp m with m | m
    · exact words_nm d m
    · exact words_nm d m
  · obtain ⟨r, e, lt⟩ : ∃ r : Nat, t % 11 = (r : Int) ∧ r < 11 := ⟨(t % 11).toNat, by omega, by omega⟩
    rw [e, cut_from (by show r ≤ 22; omega)]
    show 2 ≤ 22 - r
    omega
  have il : ∀ n : Nat, (intL 0 n).length = n := fun n => by simp [intL]
  refine ok_seq ?_
  refine ok_asg (i := 4) (φ := fun d => ∃ z, d = .str z ∧ StrP z 7) ((ev_join (K := K) (a := "") (χ := fun ys => ys.length ≤ 7 ∧ ∀ y ∈ ys, StrP y 1) ev_str (Evs.imp' (evs_one (ev_lcMap (i := 7) (P := fun ds => ds.length ≤ 7) (by exact True.intro) (src_rng1 (K := K) (Evs.imp' (evs_one (ev_take rfl (ev_int (i := 8)) (by decide) (by decide))) fun ds ⟨d, e, r, e2, r0, r1⟩ => ⟨r.toNat, ?_, ?_, ?_⟩))
    (fun _ e => ∃ x, e = .str x ∧ StrP x 1) fun ds k d p ed F' => ev_op (φ := (· = .str abc26)) (ev_var rfl) (ev_take rfl (ev_int (i := 26)) (by decide) (by decide)) ?_)) fun ds ⟨d, e, ds2, out, p, _, e2, e3, h⟩ => ?_) fun ys ⟨h1, h2⟩ => ?_).imp fun d ⟨ys, e, h1, h2⟩ => ⟨_, e, (join_strP h2).wide h1⟩) fun d ⟨z, ed, sz⟩ => ?_
  · rw [e, e2]
    show [PyData.int r] = [PyData.int ((r.toNat : Nat) : Int)]
    rw [show ((r.toNat : Nat) : Int) = r by omega]
  · show (intL 0 r.toNat).length ≤ 7
    rw [il]
    omega
  · omega
  · rintro d e rfl ⟨r, rfl, r0, r1⟩
    obtain ⟨c, h1, h2⟩ := letter_at r0 r1
    intro F2 H2 u v Q2 tr a1 a2 q2
    exact od_ixS (by decide) h1 F2 H2 u v Q2 tr a1 a2 fun v d H3 g a3 p3 => q2 v d H3 g a3 ⟨_, p3, h2⟩
  · obtain ⟨ys, e4, h4⟩ := texts_of (out := out) fun x m => by
      obtain ⟨j, hj⟩ := List.mem_iff_getElem?.mp m
      have lj : j < ds2.length := by
        have := (List.getElem?_eq_some_iff.mp hj).1
        omega
      exact h j _ x (List.getElem?_eq_getElem lj) hj
    refine ⟨ys, by rw [e, e2, e4], ?_, h4⟩
    have : ys.length = out.length := by rw [e4, List.length_map]
    have p' : ds2.length ≤ 7 := p
    omega
  · have := sum_le h2
    have e : ("" : Str).length = 0 := rfl
    rw [e]
    omega
  subst ed
  dsimp only
  have lst : ∀ {d : PyData}, (∃ x, d = .str x ∧ StrP x 8) → ∃ x, d = .str x ∧ StrP x 40 := fun ⟨x, e, s⟩ => ⟨x, e, s.wide (by decide)⟩
  refine ok_ret (φ := postNames [.int 2]) (ev_callB (χ := fun ds => ∃ xs, ds = [.list xs] ∧ NmL xs ∧ xs.length = 2) rfl (Evs.imp' (evs_one (ev_lcMap (i := 7) (P := (· = intL 0 2)) (by exact True.intro) (src_rng1 (K := K) (Evs.imp' (evs_one (te := tVar 1) (φ := (· = .int 2)) (ev_var rfl)) fun ds ⟨d, e, e2⟩ => ⟨2, by rw [e, e2]; rfl, rfl, by decide⟩))
    (fun _ e => ∃ x, e = .str x ∧ StrP x 40) fun ds k d p ed F' => ?_)) fun ds ⟨d, e, ds2, out, p, _, e2, e3, h⟩ => ?_) (fun ds ⟨xs, e, n, z⟩ => ⟨xs, e, n.shp, by omega⟩) fun ds d ⟨xs, e, n, z⟩ ⟨xs2, ys, e1, e2, p⟩ => ?_) fin
  · obtain ⟨j, rfl, j0, j1⟩ : ∃ j : Int, d = .int j ∧ 0 ≤ j ∧ j < 2 := by
      subst p
      unfold intL at ed
      rw [List.getElem?_map] at ed
      cases e : (List.range 2)[k]? with
      | none => rw [e] at ed; cases ed
      | some m =>
        rw [e] at ed
        have lm := List.mem_range.mp (List.mem_of_getElem? e)
        exact ⟨_, (Option.some.inj ed).symm, by omega, by omega⟩
    have cm : L2.CMul 5 j := .inl ⟨by decide, by omega⟩
    obtain ⟨c, h1, h2⟩ := letter_at (i := (t + 5 * j) % 26) (Int.emod_nonneg _ (by decide)) (Int.emod_lt_of_pos _ (by decide))
    refine ev_op (φ := (· = .str z)) (ψ := (· = .str ⟨#[c]⟩)) (ev_var rfl) (ek_op (ev_var rfl) (ek_op (ek_cb (eks_cons (ek_op (ev_var rfl) (ek_op ev_int (ev_var rfl) (od_mulI cm)) od_addI) evs_nil) (cd_intI (i := t + 5 * j))) (ev_int (i := 26)) (od_I (by show (0 : Int) < 26; decide))) (od_ixS (by decide) h1)) ?_
    rintro d e rfl rfl
    have s8 := sz.app h2
    intro F2 H2 u v Q2 tr a1 a2 q2
    exact od_addS (by have := s8.len; rw [strLen_append] at this; omega) F2 H2 u v Q2 tr a1 a2 fun v d H3 g a3 p3 => q2 v d H3 g a3 ⟨_, p3, s8.wide (by decide)⟩
  · refine ⟨out, by rw [e, e2], fun x m => ?_, ?_⟩
    · obtain ⟨j, hj⟩ := List.mem_iff_getElem?.mp m
      have lj : j < ds2.length := by
        have := (List.getElem?_eq_some_iff.mp hj).1
        omega
      exact h j _ x (List.getElem?_eq_getElem lj) hj
    · rw [e3, p, il]
  · rw [e] at e1
    cases e1
    rw [e2]
    exact two_perm n z p
end
end K11

/-! the bag of a script -/
namespace K11
open PySem PySem.Spec PyProof.Rows L2 Gd
inductive Wk : List Ab → List Ab → Prop
  | nil : Wk [] []
  | any {a : Ab} {r t : List Ab} : Wk r t → Wk (a :: r) (.any :: t)
  | keep {a : Ab} {r t : List Ab} : Wk r t → Wk (a :: r) (a :: t)
theorem Wk.len : ∀ {r t : List Ab}, Wk r t → t.length = r.length
  | _, _, .nil => rfl
  | _, _, .any h => congrArg (· + 1) h.len
  | _, _, .keep h => congrArg (· + 1) h.len
theorem Wk.at : ∀ {r t : List Ab}, Wk r t → ∀ (i : Nat) (a : Ab), t[i]? = some a → a = .any ∨ r[i]? = some a
  | _, _, .nil, i, a, e => nomatch e
  | _, _, .any h, 0, a, e => .inl (Option.some.inj e).symm
  | _, _, .any h, i + 1, a, e => h.at i a e
  | _, _, .keep h, 0, a, e => .inr e
  | _, _, .keep h, i + 1, a, e => h.at i a e
theorem Wk.sl {F : List Addr} {B : Bag} {H : Hp} {σ : L2.St} {r t : List Ab} (h : Wk r t) (k : Sl F B H σ r) : Sl F B H σ t := ⟨by rw [k.len, h.len], fun i a o e1 e2 => by
  rcases h.at i a e1 with e | e
  · subst e
    trivial
  · exact k.ok i a o e e2⟩
theorem Wk.ok {Hi : List Hp} {F : List Addr} {B : Bag} {N : L2.St → Hp → Prop} {r t : List Ab} (h : Wk r t) (k : OkK Hi F B N t) : OkK Hi F B N r := fun σ H s l => k σ H s (h.sl l)
section
variable {P : Program} {w : World} {K : PySem.W.Frag} {mg : Str → Option Value} {base : Heap}
theorem das_ints {F : List Addr} {H : Hp} : ∀ ns : List Int, Das F H (ns.map V.int) (ns.map PyData.int)
  | [] => .nil
  | n :: ns => .cons (.int n) (das_ints ns)
theorem sq_gr {H H' : Hp} {a : Addr} {xs : List V} (g : Gr [] H H') (h : SqL K H a xs) : SqL K H' a xs := by
  rcases h with (h | ⟨o, h⟩) | h
  · exact .inl (.inl (g _ _ (fun z => nomatch z) h))
  · exact .inl (.inr ⟨o, g _ _ (fun z => nomatch z) h⟩)
  · exact .inr h
def SpBag (K : PySem.W.Frag) : Sp := fun vs H Q _ => ∃ (a : Addr) (ns : List Int), vs = [.ref a] ∧ SqL K H a (ns.map V.int) ∧ ∀ v d H', Gr [] H H' → Da [] H' v d → postBag [] d → Q v H'
theorem ok_bagL (X : K.In base) (G : base.Ns mainGlobals mg) (T : Txt mg) (D : DefAt K "_law_bag" s_law_bag) : CalG P w K mg base 1 "_law_bag" (SpBag K) := by
  refine calG_of X G D sc_law_bag (fun _ _ _ _ _ _ us hl => match us, hl with | [_], _ => rfl) (fun vs H Q E h => ?_) (fun f cdv A outer s H vs Q E ng hr h => ?_)
  · obtain ⟨a, ns, rfl, _⟩ := h
    rfl
  refine ⟨_, (pss_one (ps_ret (pe_lst (pa_cons pe_int (pa_cons pe_int (pa_cons pe_int (pa_cons (pe_lc (own := [("_law_cell", 1)]) rfl sc_law_bag.nd (pi_list (pe_slice sl_all (pv 0) po_none (po_some pe_int))) (blkOk_by (by rfl)) (fun _ _ _ _ _ => (pg_name (i := 1) sc_law_bag.nd rfl (Or.inl rfl))) (fun _ _ _ _ _ => pts_nil) (fun _ _ _ _ _ => (pe_callB call_abs (by rfl) T.b_abs (by decide +kernel) (pa_cons (pv 1) pa_nil)))) pa_nil))))))), ?_⟩
  obtain ⟨a, ns, rfl, sq, q⟩ := h
  have st : St [H] [] none H := ⟨fun A m => by
    have e : A = H := by simpa using m
    rw [e]
    exact Gr.refl _ _, fun p m => (nomatch m), fun b l z => (nomatch z)⟩
  have sl : Sl [] none H (L2.start ["_law_script", "_law_cell"] [V.ref a]) [.obj fun v H => v = .ref a ∧ SqL K H a (ns.map V.int), .any] := by
    refine ⟨rfl, fun i b o e1 e2 => ?_⟩
    match i with
    | 0 =>
      cases (Option.some.inj e1)
      cases (Option.some.inj e2)
      exact ⟨fun v H H' g ⟨e, h⟩ => ⟨e, sq_gr g h⟩, _, rfl, rfl, sq⟩
    | 1 =>
      cases (Option.some.inj e1)
      trivial
    | i + 2 => exact nomatch e1
  have cut : Gd.cutD (ns.map PyData.int) none (some 63) = (ns.take 63).map PyData.int := by
    unfold Gd.cutD
    have : HT.sIx (ns.map PyData.int).length (ns.map PyData.int).length (some 63) = min 63 ns.length := by
      rw [List.length_map]
      exact HT.sIx_nat _ _ 63
    rw [this]
    show List.take (min 63 ns.length - 0) (ns.map PyData.int) = _
    rw [Nat.sub_zero, ← List.map_take]
    congr 1
    rcases Nat.le_total 63 ns.length with h | h
    · rw [Nat.min_eq_left h]
    · rw [Nat.min_eq_right h, List.take_of_length_le (Nat.le_refl _), List.take_of_length_le h]
  have e2 : Ek [H] [] none [.obj fun v H => v = .ref a ∧ SqL K H a (ns.map V.int), .any] (tSl (rSlAll K) (tVar 0) tNoPart (tPart (tC (.int 63)))) (.list ((ns.take 63).map PyData.int)) := fun σ H1 Q1 s1 l1 q1 => by
    obtain ⟨v, ev, rfl, sq1⟩ := l1.obj (i := 0) rfl
    refine ⟨_, ev, 63, rfl, .inl ⟨a, _, rfl, sq1, fun p hp => ?_⟩⟩
    have g : Gr [] H1 (upd H1 p (.lst (cutV (ns.map V.int) none (some 63)))) := Gr.new hp
    refine q1 _ (.list ((ns.take 63).map PyData.int)) _ g (s1.same g) (.lst (fun m => nomatch m) upd_same ?_) rfl
    have := (das_ints (F := []) (H := upd H1 p (.lst (cutV (ns.map V.int) none (some 63)))) ns).cut none (some 63)
    rw [cut] at this
    exact this
  have lz : ((ns.take 63).map PyData.int).length ≤ 100000 := by
    rw [List.length_map, List.length_take]
    omega
  have main : Ok [H] [] none _ { nx := fun _ H' => Q .non H', rt := Q } [.obj fun v H => v = .ref a ∧ SqL K H a (ns.map V.int), .any] :=
    ok_ret (φ := postBag []) ((ev_lst (evs_cons (ev_int (i := 0)) (evs_cons (ev_int (i := 1234567891)) (evs_cons (ev_int (i := 0)) (evs_one
      (ev_lcW (te := tCB (fun xs H Q => ∃ i : Int, xs = [.int i] ∧ Q (.int (if i < 0 then -i else i)) H) (tCons (tVar 1) tNil)) (tt := tYes) (i := 1) (ab' := [.any, .any]) (fun F H σ h => (Wk.any (Wk.keep .nil)).sl h) True.intro (src_list (K := K) (P := (· = (ns.take 63).map PyData.int)) (e2.imp fun d e => ⟨_, e, rfl, lz⟩))
        (fun ds k out => ∃ ms : List Int, out = ms.map PyData.int ∧ ms.length = k) (fun ds p => ⟨[], rfl, rfl⟩) (fun ds k d out p ed ⟨ms, e1, e3⟩ F' => et_yes.imp fun c ec => ⟨fun _ F2 => ?_, fun z => nomatch ec ▸ z⟩)))))) (fun r h => ?_)).imp fun d h => ?_) fun v d H' s' a' p => q v d H' (s'.ch H List.mem_cons_self) a' p
  · exact main _ _ st sl
  · subst p
    rw [List.getElem?_map] at ed
    cases e : (ns.take 63)[k]? with
    | none => rw [e] at ed; cases ed
    | some i =>
      rw [e] at ed
      cases (Option.some.inj ed)
      refine (ek_cb (eks_cons (ev_var rfl) evs_nil) (cd_abs (i := i))).imp fun d e4 => ⟨ms ++ [if i < 0 then -i else i], ?_, by rw [List.length_append, e3]; rfl⟩
      rw [e1, e4, List.map_append]
      rfl
  · obtain ⟨d1, r1, rfl, _, d2, r2, rfl, _, d3, r3, rfl, _, d4, rfl, _⟩ := h
    show 4 ≤ 100000
    decide
  · obtain ⟨r, rfl, d1, r1, rfl, rfl, d2, r2, rfl, rfl, d3, r3, rfl, rfl, d4, rfl, ds, out, rfl, ⟨ms, rfl, lm⟩, _, _, rfl⟩ := h
    refine ⟨1234567891, ms, rfl, ?_⟩
    rw [lm, List.length_map, List.length_take]
    omega
end
end K11

/-! the law -/
namespace K11
open PySem PySem.Spec PyProof.Rows L2 Gd
/-- what Book(["a"]) does: dvs the default -/
def SpInit (C : Addr) (dvs : List V) : Sp := fun vs H Q _ => ∃ x dx l, vs = .ref x :: .ref l :: dvs ∧ x ≠ l ∧ H x = some (.ins C dx []) ∧ H l = some (.lst [.str "a"]) ∧
  ∀ H', (∃ fs, H' x = some (.ins C dx fs)) → (∀ p u, p ≠ x → p ≠ dx → H p = some u → H' p = some u) → Q .non H'
theorem ek_book {Hi : List Hp} {F : List Addr} {B : Bag} {ab : List Ab} {C : Addr} {dvs : List V} {a : Sp} {r : PyData} : Ek Hi F B ab (tCall (SpOr a (SpIns C r)) [] E0 (tCons (tMake C (SpInit C dvs) dvs E0 (tCons (tLst (tCons (tC (.str "a")) tNil)) tNil)) tNil)) r := fun σ H Q s l q => by
  refine ⟨by show 1 ≤ sizeLine; decide, fun p hp x dx hx hdx hne => ?_⟩
  have xp : x ≠ p := fun z => by
    rw [z, upd_same] at hx
    cases hx
  have dp : dx ≠ p := fun z => by
    rw [z, upd_same] at hdx
    cases hdx
  have hxH : H x = none := by rwa [upd_ne xp] at hx
  have hdH : H dx = none := by rwa [upd_ne dp] at hdx
  refine ⟨x, dx, p, rfl, xp, upd_same, by rw [upd_ne xp.symm, upd_ne dp.symm]; exact upd_same, fun H' ⟨fs, hf⟩ kp => ⟨rfl, ?_⟩⟩
  have g : Gr [] H H' := fun c u _ e => by
    have cx : c ≠ x := ne_of_none e hxH
    have cd : c ≠ dx := ne_of_none e hdH
    have cp : c ≠ p := ne_of_none e hp
    refine kp c u cx cd ?_
    rw [upd_ne cx, upd_ne cd, upd_ne cp]
    exact e
  have s' := s.same g
  refine .inr ⟨F, .ref x, s'.tr, rfl, ⟨x, dx, fs, rfl, fun m => s.tr x m hxH, hf⟩, fun v d H2 g2 a2 p2 => q v d H2 (ch_of (g.trans g2)) (s'.same g2) a2 p2⟩
theorem ek_funL {Hi : List Hp} {F : List Addr} {B : Bag} {ab : List Ab} {te : TE} {d : PyData} {E : XK} {b : Sp} {ok : PyData → Prop} (f : PyData → PyData) (h : Ek Hi F B ab te d) (o : ok d) : Ek Hi F B ab (tCall (SpOr (Fun1 ok f) b) [] E (tCons te tNil)) (f d) := fun σ H Q s l q =>
  eks_cons h evs_nil σ H _ s l fun vs ds H1 c1 s1 a1 p1 => by
    rw [List.append_nil]
    refine .inl ⟨F, ds, s1.tr, a1, ⟨d, p1, o⟩, fun v r H2 g a2 ⟨d', e', p2⟩ => q v r H2 (c1.trans (ch_of g)) (s1.same g) a2 ?_⟩
    rw [p1] at e'
    cases e'
    exact p2
section
variable {P : Program} {w : World} {K : PySem.W.Frag} {mg : Str → Option Value} {base : Heap}
section
variable {Hi : List Hp} {F : List Addr} {B : Bag} {ab : List Ab}
theorem ek_alike {ta tb : TE} {d : PyData} {E : XK} (h1 : Ek Hi F B ab ta d) (h2 : Ek Hi F B ab tb d) (f : Fine d) (n : d.hasDict = false) : Ek Hi F B ab (tCall (SpP preAlike postAlike) [] E (tCons ta (tCons tb tNil))) (.bool true) :=
  ev_callP (eks_cons h1 (eks_cons h2 evs_nil)) (fun ds e => ⟨d, d, e, f, f, n, n⟩) fun ds r e ⟨d1, e1, c, e2, e3, z⟩ => by
    rw [e] at e2
    cases e2
    rw [e3, z rfl]
theorem Th.shown {n m : Nat} {d : PyData} (h : Th n m d) (a : n ≤ 50) (b : m ≤ 1000000) : Shown d := Fine.shown ⟨h.ok, Nat.le_trans h.wt b, Nat.le_trans h.deep a⟩ h.kind
theorem bools_fine {bs : List PyData} (h : ∀ d ∈ bs, smB d = true) (l : bs.length ≤ 8) : Fine (.list bs) ∧ (PyData.list bs).hasDict = false := by
  obtain ⟨a1, a2, a3, a4, a5⟩ := sms_all h
  exact ⟨⟨by simpa only [okd] using a1, by simp only [Gd.wt]; omega, by simp only [PyData.depth, a2]; omega⟩, by simpa only [PyData.hasDict] using a3⟩
end
def L1 (t sg an od x y : PyData) : List Ab := [.any, .bag, .dat t, .dat sg, .dat an, .dat od, .any, .any, .any, .dat x, .dat y, .any, .any]
def dueD (d : PyData) : List PyData := [.bool (intB d), .bool (nameB d), .bool (pairB d), .bool (answerB d)]
theorem due_fine (d : PyData) : Fine (.list (dueD d)) ∧ (PyData.list (dueD d)).hasDict = false := bools_fine (fun e m => by
  simp only [dueD, List.mem_cons, List.not_mem_nil, or_false] at m
  rcases m with rfl | rfl | rfl | rfl <;> rfl) (by show 4 ≤ 8; decide)
theorem fine_list {xs : List PyData} (h : ∀ d ∈ xs, Th 1 8035 d ∧ d.hasDict = false) (l : xs.length ≤ 8) : Fine (.list xs) ∧ (PyData.list xs).hasDict = false := by
  have main : okdAll xs = true ∧ PyData.depthAll xs ≤ 1 ∧ PyData.hasDictAll xs = false ∧ wtAll xs ≤ 8037 * xs.length := by
    clear l
    induction xs with
    | nil => exact ⟨rfl, Nat.zero_le _, rfl, Nat.le_refl _⟩
    | cons x xs ih =>
      obtain ⟨⟨a1, a2, a3, _⟩, a4⟩ := h x List.mem_cons_self
      obtain ⟨b1, b2, b3, b4⟩ := ih fun d m => h d (List.mem_cons_of_mem _ m)
      refine ⟨by simp [okdAll, a1, b1], by simp only [PyData.depthAll]; omega, by simp [PyData.hasDictAll, a4, b3], ?_⟩
      simp only [wtAll, List.length_cons]
      omega
  obtain ⟨b1, b2, b3, b4⟩ := main
  exact ⟨⟨by simpa only [okd] using b1, by simp only [Gd.wt]; omega, by simp only [PyData.depth]; omega⟩, by simpa only [PyData.hasDict] using b3⟩
theorem smalls_fine {xs : List PyData} (h : ∀ d ∈ xs, smB d = true) (l : xs.length ≤ 8) : Th 1 8035 (.tuple xs) ∧ (PyData.tuple xs).hasDict = false := ⟨(th_smalls h l).1, by simpa only [PyData.hasDict] using (sms_all h).2.2.1⟩
theorem two_fine {a b : PyData} (h1 : smB a = true) (h2 : smB b = true) : Th 1 8035 (.tuple [a, b]) ∧ (PyData.tuple [a, b]).hasDict = false := smalls_fine (by
  simp only [List.forall_mem_cons, List.not_mem_nil, false_imp_iff, implies_true, and_true]
  exact ⟨h1, h2⟩) (by show 2 ≤ 8; decide)
theorem three_fine {a b : PyData} {c : Bool} (h1 : smB a = true) (h2 : smB b = true) : Th 1 8035 (.tuple [a, b, .bool c]) ∧ (PyData.tuple [a, b, .bool c]).hasDict = false := smalls_fine (by
  simp only [List.forall_mem_cons, List.not_mem_nil, false_imp_iff, implies_true, and_true]
  exact ⟨h1, h2, rfl⟩) (by show 3 ≤ 8; decide)
theorem das_flat {F : List Addr} {H : Hp} {vs : List V} {ds : List PyData} (h : Das F H vs ds) : ∀ n : Nat, Das F H (List.replicate n vs).flatten (List.replicate n ds).flatten
  | 0 => .nil
  | n + 1 => by
    rw [List.replicate_succ, List.replicate_succ, List.flatten_cons, List.flatten_cons]
    exact h.app (das_flat h n)
theorem nones_ok : ∀ n : Nat, okdAll (List.replicate n [PyData.none]).flatten = true
  | 0 => rfl
  | n + 1 => by
    rw [List.replicate_succ, List.flatten_cons]
    show (true && okdAll (List.replicate n [PyData.none]).flatten) = true
    rw [nones_ok n]
    rfl
theorem od_repL {xs : List PyData} {n : Int} (n0 : 0 ≤ n) (n1 : n ≤ 20000) (z : xs.length * n.toNat ≤ 100000) : OpD rMulA (.list xs) (.int n) (· = .list (List.replicate n.toNat xs).flatten) := fun F H x y Q tr a1 a2 q => by
  cases a2
  cases a1 with
  | @lst a vs _ n1 h1 k1 =>
    refine .inr ⟨a, n, vs, rfl, rfl, h1, by omega, by omega, by rw [k1.length]; exact Nat.le_trans z (by decide), fun p hp => ?_⟩
    have g : Gr [] H (upd H p (.lst (List.replicate n.toNat vs).flatten)) := Gr.new hp
    exact q _ (.list (List.replicate n.toNat xs).flatten) _ g (.lst (fun m => tr p m hp) upd_same ((das_flat k1 n.toNat).gr (Gr.new hp))) rfl
theorem ok_run {Hi : List Hp} {F : List Addr} {B : Bag} {N : L2.St → Hp → Prop} {ab : List Ab} {σ : L2.St} {H : Hp} (s : St Hi F B H) (l : Sl F B H σ ab) (k : OkK Hi F B N ab) : N σ H := k σ H s l
def SpLaw (K : PySem.W.Frag) : Sp := fun vs H Q _ => ∃ (a : Addr) (ns : List Int), vs = [.ref a] ∧ SqL K H a (ns.map V.int) ∧ ∀ H', Q (.bl true) H'
abbrev slaw : Stmt := top 39
theorem sclaw : FnScope ["_law_script", "_law_bag_here", "_law_turn", "_law_signed_here", "_law_answer", "_law_odd_here", "_law_thing", "_law_found", "_law_due", "_law_x", "_law_y", "_law_again", "_law_shown"] ["_law_script"] (defScope slaw) := ⟨rfl, rfl, rfl, by decide +kernel, rfl, by decide +kernel, by decide +kernel⟩
theorem int_isi (d : PyData) : ((match d with | .int _ => true | .bool _ => true | _ => false) && !(match d with | .bool _ => true | _ => false)) = intB d := by cases d <;> rfl
theorem ok_law (X : K.In base) (G : base.Ns mainGlobals mg) (T : Txt mg) {f0 : Addr} {fd0 : FuncData} (FF : Fun K "law" "law" slaw f0 fd0) (c_law_bag : CalG P w K mg base 1 "_law_bag" (SpBag K)) (c_law_names : CalG P w K mg base 3 "_law_names" (SpB preNames postNames)) (c_law_signed : CalG P w K mg base 3 "_law_signed" (SpB preSigned postSigned))
    (c_law_take : CalG P w K mg base 1 "_law_take" (SpB preTake postTake)) (c_law_odd : CalG P w K mg base 3 "_law_odd" (SpB preOdd postOdd)) (c_law_near : CalG P w K mg base 4 "_law_near" (SpB preNear postNear)) (c_law_is_name : CalG P w K mg base 1 "_law_is_name" (SpIs nameB))
    (c_law_is_pair : CalG P w K mg base 3 "_law_is_pair" (SpIs pairB)) (c_law_is_answer : CalG P w K mg base 4 "_law_is_answer" (SpIs answerB)) {C : Addr} {dvs : List V} (cBook : C8.Mak P w K mg base 3 "Book" C (SpInit C dvs) dvs) (c_law_judged : CalG P w K mg base 4 "_law_judged" (SpOr (Fun1 okP judD) (SpIns C noneD))) (c_law_alike : CalG P w K mg base 1 "_law_alike" (SpP preAlike postAlike))
    (cpair_of : CalG P w K mg base 1 "pair_of" (Fun1 ansP pairD)) (ccontrary : CalG P w K mg base 1 "contrary" (Fun1 ansP contD)) (cmirrored : CalG P w K mg base 1 "mirrored" (Fun1 ansP mirrD)) (cends_of : CalG P w K mg base 1 "ends_of" (Fun1 ansP endsD)) (c_law_leads : CalG P w K mg base 1 "_law_leads" (Fun1 ansP endsD)) :
    FnG P w K mg base CX0 5 f0 fd0 ["_law_script"] (SpLaw K) := by
  refine okG FF sclaw (fun vs H Q E h => ?_) (fun cdv A outer s H vs Q E ng hr h => ?_)
  · obtain ⟨a, ns, rfl, _⟩ := h
    rfl
  refine ⟨_, (pss_cons (ps_set (i := 1) sclaw.nd rfl (Or.inl rfl) (pe_cg c_law_bag ng hr (by decide) (pa_cons (pv 0) pa_nil)))
      (pss_cons (ps_for PassesOwn.never rfl (pi_range1 (by rfl) T.b_range (pa_cons pe_int pa_nil)) (pg_name (i := 2) sclaw.nd rfl (Or.inl rfl))
        (pss_cons (ps_asg (pe_cg c_law_names ng hr (by decide) (pa_cons (pv 1) (pa_cons pe_int pa_nil))) (pg_lst rfl (pgs_cons (pg_name (i := 9) sclaw.nd rfl (Or.inl rfl)) (pgs_cons (pg_name (i := 10) sclaw.nd rfl (Or.inl rfl)) pgs_nil))))
        (pss_cons (ps_set (i := 3) sclaw.nd rfl (Or.inl rfl) (pe_cg c_law_signed ng hr (by decide) (pa_cons (pv 1) (pa_cons (pv 9) pa_nil))))
        (pss_cons (ps_set (i := 4) sclaw.nd rfl (Or.inl rfl) (pe_tupX (pa_cons (pv 9) (pa_cons (pv 10) (pa_cons (pe_cmpR (op_eqA hr.units) (pe_cg c_law_take ng hr (by decide) (pa_cons (pv 1) (pa_cons pe_int pa_nil))) pe_int (nomark _)) pa_nil)))))
        (pss_cons (ps_set (i := 5) sclaw.nd rfl (Or.inl rfl) (pe_lst (pa_cons (pe_cg c_law_odd ng hr (by decide) (pa_cons (pv 1) (pa_cons (pv 9) pa_nil))) (pa_cons (pe_cg c_law_near ng hr (by decide) (pa_cons (pv 1) (pa_cons (pv 4) pa_nil))) (pa_cons (pe_cg c_law_near ng hr (by decide) (pa_cons (pv 1) (pa_cons (pe_slice sl_all (pv 4) po_none (po_some pe_int)) pa_nil))) (pa_cons (pv 3) (pa_cons (pe_tupX (pa_cons (pv 3) (pa_cons (pv 10) pa_nil))) pa_nil)))))))
        (pss_cons (ps_for PassesOwn.never rfl (pi_list (pe_op op_addA (pv 5) (pe_lst (pa_cons (pe_tupX (pa_cons (pv 10) (pa_cons (pv 3) (pa_cons pe_bl pa_nil)))) (pa_cons (pv 4) (pa_cons (pv 9) (pa_cons (pe_tupX (pa_cons (pv 9) (pa_cons (pv 10) pa_nil))) pa_nil))))))) (pg_name (i := 6) sclaw.nd rfl (Or.inl rfl))
          (pss_cons (ps_par (i := 8) (j := 12) (by rfl) sclaw.nd rfl rfl (by decide) rfl rfl (pa_cons (pe_lst (pa_cons (pe_and (pe_callB call_isi (by rfl) T.b_isinstance (by decide +kernel) (pa_cons (pv 6) (pa_cons (pe_bltn (v := .ty "int") (by rfl) T.b_int (by decide +kernel) rfl) pa_nil))) (pe_one (pe_not (pe_callB call_isi (by rfl) T.b_isinstance (by decide +kernel) (pa_cons (pv 6) (pa_cons (pe_bltn (v := .ty "bool") (by rfl) T.b_bool (by decide +kernel) rfl) pa_nil)))))) (pa_cons (pe_cg c_law_is_name ng hr (by decide) (pa_cons (pv 6) pa_nil)) pa_nil))) (pa_cons (pe_callB (call_repr ng hr.units) (by rfl) T.b_repr (by decide +kernel) (pa_cons (pv 6) pa_nil)) pa_nil)) (by rfl))
          (pss_cons (ps_set (i := 8) sclaw.nd rfl (Or.inl rfl) (pe_op op_addA (pv 8) (pe_lst (pa_cons (pe_cg c_law_is_pair ng hr (by decide) (pa_cons (pv 6) pa_nil)) (pa_cons (pe_cg c_law_is_answer ng hr (by decide) (pa_cons (pv 6) pa_nil)) pa_nil)))))
          (pss_one (ps_for PassesOwn.never rfl (pi_range1 (by rfl) T.b_range (pa_cons pe_int pa_nil)) (pg_name (i := 11) sclaw.nd rfl (Or.inl rfl))
            (pss_one (ps_if (PW.pt (pw_or (pt_not (pt_val (pe_cg c_law_alike ng hr (by decide) (pa_cons (pe_cg c_law_judged ng hr (by decide) (pa_cons (pv 6) pa_nil)) (pa_cons (pv 8) pa_nil))))) (pw_or1 (pt_cmpR (op_neA hr.units) (pe_callB (call_repr ng hr.units) (by rfl) T.b_repr (by decide +kernel) (pa_cons (pv 6) pa_nil)) (pv 12) (nomark _)))))
              (pss_one (ps_ret pe_bl))
              pss_nil)))))))
        (pss_cons (ps_set (i := 7) sclaw.nd rfl (Or.inl rfl) (pe_lst (pa_cons (pe_cg cpair_of ng hr (by decide) (pa_cons (pv 4) pa_nil)) (pa_cons (pe_cg ccontrary ng hr (by decide) (pa_cons (pv 4) pa_nil)) (pa_cons (pe_cg cmirrored ng hr (by decide) (pa_cons (pv 4) pa_nil)) (pa_cons (pe_cg cends_of ng hr (by decide) (pa_cons (pv 4) pa_nil)) pa_nil))))))
        (pss_cons (ps_set (i := 8) sclaw.nd rfl (Or.inl rfl) (pe_lst (pa_cons (pe_tupX (pa_cons (pv 9) (pa_cons (pv 10) pa_nil))) (pa_cons (pe_tupX (pa_cons (pv 9) (pa_cons (pv 10) (pa_cons (pe_not (pe_ix ix_seq (pv 4) pe_int (fun _ _ => rfl))) pa_nil)))) (pa_cons (pe_tupX (pa_cons (pv 10) (pa_cons (pv 9) (pa_cons (pe_ix ix_seq (pv 4) pe_int (fun _ _ => rfl)) pa_nil)))) (pa_cons (pe_cg c_law_leads ng hr (by decide) (pa_cons (pv 4) pa_nil)) pa_nil))))))
        (pss_one (ps_if (PW.pt (pw_or (pt_not (pt_val (pe_cg c_law_alike ng hr (by decide) (pa_cons (pv 7) (pa_cons (pv 8) pa_nil))))) (pw_or1 (pt_not (pt_val (pe_cg c_law_alike ng hr (by decide) (pa_cons (pe_lst (pa_cons (pe_cg ccontrary ng hr (by decide) (pa_cons (pe_ix ix_seq (pv 7) pe_int (fun _ _ => rfl)) pa_nil)) (pa_cons (pe_cg cmirrored ng hr (by decide) (pa_cons (pe_ix ix_seq (pv 7) pe_int (fun _ _ => rfl)) pa_nil)) pa_nil))) (pa_cons (pe_lst (pa_cons (pv 4) (pa_cons (pv 4) pa_nil))) pa_nil))))))))
          (pss_one (ps_ret pe_bl))
          pss_nil))))))))))
      (pss_one (ps_ret (pe_and (pe_cmpR (op_eqA hr.units) (pe_cg c_law_judged ng hr (by decide) (pa_cons (pe_op op_mulA (pe_lst (pa_cons pe_non pa_nil)) pe_int) pa_nil)) (pe_op op_mulA (pe_lst (pa_cons pe_bl pa_nil)) pe_int) (nomark _)) (pe_one (pe_cmpR (op_eqA hr.units) (pe_cg c_law_judged ng hr (by decide) (pa_cons (C8.pe_mk cBook hr (by decide) (by rfl) (pa_cons (pe_lst (pa_cons pe_str pa_nil)) pa_nil)) pa_nil)) (pe_op op_mulA (pe_lst (pa_cons pe_bl pa_nil)) pe_int) (nomark _)))))))), ?_⟩
  obtain ⟨a, ns, rfl, sq, q⟩ := h
  refine ⟨.ref a, rfl, a, ns, rfl, sq, fun v d H1 g da ⟨n1, ms, e, lm⟩ => ?_⟩
  subst e
  cases da with
  | @lst b us _ nf hb ka =>
  cases ka with
  | cons b1 ka =>
  cases b1
  cases ka with
  | cons b1 ka =>
  cases b1
  cases ka with
  | cons b1 ka =>
  cases b1
  cases ka with
  | cons b1 ka =>
  cases ka
  cases b1 with
  | @lst l ws _ nl hl kl =>
  have ew : ws = ms.map V.int := by
    have : ∀ (ms : List Int) (ws : List V), Das [] H1 ws (ms.map PyData.int) → ws = ms.map V.int := by
      intro ms
      induction ms with
      | nil =>
        intro ws k
        cases k
        rfl
      | cons m ms ih =>
        intro ws k
        cases k with
        | cons k1 k2 =>
          cases k1
          rw [ih _ k2]
          rfl
    exact this ms ws kl
  subst ew
  have bl : b ≠ l := fun z => by
    rw [← z, hb] at hl
    have e := (HO.lst.inj (Option.some.inj hl))
    have e3 := congrArg (fun xs => xs[3]?) e
    have e4 : some (V.ref l) = (ms.map V.int)[3]? := e3
    rw [List.getElem?_map] at e4
    cases hm : ms[3]? with
    | none => rw [hm] at e4; cases e4
    | some m => rw [hm] at e4; cases e4
  have st : St [] [b, l] (some (b, l)) H1 := by
    refine ⟨fun A m => (nomatch m), fun p m => ?_, fun b' l' e => ?_⟩
    · simp at m
      rcases m with rfl | rfl
      · rw [hb]
        exact fun z => (nomatch z)
      · rw [hl]
        exact fun z => (nomatch z)
    · cases e
      exact ⟨by simp, by simp, bl, 0, n1, 0, ms, hb, hl, by omega⟩
  have sl : Sl [b, l] (some (b, l)) H1 ((L2.start ["_law_script", "_law_bag_here", "_law_turn", "_law_signed_here", "_law_answer", "_law_odd_here", "_law_thing", "_law_found", "_law_due", "_law_x", "_law_y", "_law_again", "_law_shown"] [V.ref a]).set 1 (some (.ref b)))
      [.any, .bag, .any, .any, .any, .any, .any, .any, .any, .any, .any, .any, .any] := by
    refine ⟨rfl, fun i c o e1 e2 => ?_⟩
    match i with
    | 0 | 2 | 3 | 4 | 5 | 6 | 7 | 8 | 9 | 10 | 11 | 12 =>
      cases (Option.some.inj e1)
      trivial
    | 1 =>
      cases (Option.some.inj e1)
      cases (Option.some.inj e2)
      exact ⟨b, l, rfl, rfl⟩
    | i + 13 => exact nomatch e1
  dsimp only [gName]
  refine ok_run st sl ?_
  have fin : ∀ v r H', St [] [b, l] (some (b, l)) H' → Da [b, l] H' v r → r = .bool true → Q v H' := fun v r H' s' a' p => by
    subst p
    cases a'
    exact q H'
  clear sl st sq g hb hl kl
  refine ok_seq (ok_for (K := K) (i := 2) (P := fun ds => True) (src_rng1 (K := K) (Evs.imp' (evs_one (φ := (· = .int 12)) ev_int) fun ds ⟨d, e, e2⟩ => ⟨12, by rw [e, e2]; rfl, True.intro, by decide⟩)) (fun ds k ab => ab = [.any, .bag, .any, .any, .any, .any, .any, .any, .any, .any, .any, .any, .any]) (fun ds _ => rfl) (fun ds k t ab' Hj N _ _ e _ hN => ?_) (fun ds ab' _ e => ?_))
  · subst e
    have sm : ∀ {x : Str} {n : Nat}, StrP x n → n ≤ 100 → smB (.str x) = true := fun h z => h.sm z
    refine ok_seq (ok_asg2l (K := K) (i := 9) (j := 10) (χ := fun d1 d2 => ∃ x y, d1 = .str x ∧ d2 = .str y ∧ StrP x 40 ∧ StrP y 40) ((ev_callB (i := 1) (pre := preNames) (post := postNames) (φ := postNames [.int 2]) (E := E0) rfl (eks_cons ev_int evs_nil) (fun ds e => e) (fun ds d e p => p)).imp fun d ⟨x, y, e, sx, sy⟩ => ⟨_, _, e, x, y, rfl, rfl, sx, sy⟩) fun d1 d2 ⟨x, y, e1, e2, sx, sy⟩ => ?_)
    subst e1 e2
    dsimp only
    refine ok_seq ?_
    refine ok_asg (i := 3) (φ := fun d => ∃ z, d = .str z ∧ StrP z 90) (ev_callB (i := 1) (pre := preSigned) (post := postSigned) (E := E0) rfl (eks_cons (d := .str x) (ev_var rfl) evs_nil) (fun ds e => ⟨x, e, sx⟩) (fun ds d e p => p)) fun d ⟨z, ed, sz⟩ => ?_
    subst ed
    dsimp only
    refine ok_seq ?_
    refine ok_asg (i := 4) (φ := fun d => ∃ c : Bool, d = .tuple [.str x, .str y, .bool c]) ((ev_tup (evs_cons (φ := (· = .str x)) (ev_var rfl) (evs_cons (φ := (· = .str y)) (ev_var rfl) (evs_one (φ := fun d => ∃ c : Bool, d = .bool c) (ev_op (ψ := (· = .int 0)) (ev_take rfl ev_int (by decide) (by decide)) ev_int ?_)))) (fun r h => ?_)).imp fun d h => ?_) fun d ⟨c, ed⟩ => ?_
    · rintro d e ⟨r, rfl, _⟩ rfl
      intro F2 H2 u v Q2 tr a1 a2 q2
      exact od_eqI F2 H2 u v Q2 tr a1 a2 fun v d H3 g a3 p3 => q2 v d H3 g a3 ⟨_, p3⟩
    · obtain ⟨d1, r1, rfl, _, d2, r2, rfl, _, d3, rfl, _⟩ := h
      show 3 ≤ 100000
      decide
    · obtain ⟨r, rfl, d1, r1, rfl, rfl, d2, r2, rfl, rfl, d3, rfl, c, rfl⟩ := h
      exact ⟨c, rfl⟩
    subst ed
    have an3 : ∀ d ∈ [PyData.str x, .str y, .bool c], smB d = true := by
      simp only [List.forall_mem_cons, List.not_mem_nil, false_imp_iff, implies_true, and_true]
      exact ⟨sm sx (by decide), sm sy (by decide), rfl⟩
    dsimp only
    refine ok_seq ?_
    refine ok_asg (i := 5) (φ := fun d => ∃ ds, d = .list ds ∧ ds.length = 5 ∧ ∀ e ∈ ds, Th 5 20000 e) ((ev_lst (evs_cons (φ := fun d => Th 5 20000 d) (ev_callB (i := 1) (pre := preOdd) (post := postOdd) (E := E0) rfl (eks_cons (d := .str x) (ev_var rfl) evs_nil) (fun ds e => ⟨x, e, sx⟩) (fun ds d e p => Th.wide p (by decide) (by decide)))
      (evs_cons (φ := fun d => Th 5 20000 d) (ev_callB (i := 1) (pre := preNear) (post := postNear) (E := E0) rfl (eks_cons (d := .tuple [.str x, .str y, .bool c]) (ev_var rfl) evs_nil) (fun ds e => ⟨x, y, [c], e, sx, sy, by show 1 ≤ 1; decide⟩) (fun ds d e p => p))
      (evs_cons (φ := fun d => Th 5 20000 d) (ev_callB (i := 1) (pre := preNear) (post := postNear) (E := E0) rfl (eks_cons ((ek_slT (K := K) (ds := [.str x, .str y, .bool c]) (lo := none) (hi := some 2) (ev_var rfl) ep_none (ep_some ev_int)).is (congrArg PyData.tuple cut_front)) evs_nil) (fun ds e => ⟨x, y, [], e, sx, sy, by show 0 ≤ 1; decide⟩) (fun ds d e p => p))
      (evs_cons (φ := (· = .str z)) (ev_var rfl) (evs_one (φ := (· = .tuple [.str z, .str y])) (ek_tup (eks_cons (ev_var rfl) (eks_cons (ev_var rfl) evs_nil)))))))) (fun r h => ?_)).imp fun d h => ?_) fun d ⟨os, ed, lo, to⟩ => ?_
    · obtain ⟨d1, r1, rfl, _, d2, r2, rfl, _, d3, r3, rfl, _, d4, r4, rfl, _, d5, rfl, _⟩ := h
      show 5 ≤ 100000
      decide
    · obtain ⟨r, rfl, d1, r1, rfl, t1, d2, r2, rfl, t2, d3, r3, rfl, t3, d4, r4, rfl, rfl, d5, rfl, rfl⟩ := h
      refine ⟨_, rfl, rfl, ?_⟩
      simp only [List.forall_mem_cons, List.not_mem_nil, false_imp_iff, implies_true, and_true]
      refine ⟨t1, t2, t3, (Sm.th (sm sz (by decide))).wide (by decide) (by decide), (th_smalls ?_ (by show 2 ≤ 8; decide)).1.wide (by decide) (by decide)⟩
      simp only [List.forall_mem_cons, List.not_mem_nil, false_imp_iff, implies_true, and_true]
      exact ⟨sm sz (by decide), sm sy (by decide)⟩
    subst ed
    dsimp only
    refine ok_seq ?_
    refine ok_for (K := K) (i := 6) (P := fun ds => ∀ e ∈ ds, Th 5 20000 e) (src_list (K := K) ((ek_addLs (K := K) (xs := os) (ys := [.tuple [.str y, .str z, .bool true], .tuple [.str x, .str y, .bool c], .str x, .tuple [.str x, .str y]]) (ev_var rfl)
      (eks_cons (ek_tup (eks_cons (ev_var rfl) (eks_cons (ev_var rfl) (eks_cons ev_bl evs_nil)))) (eks_cons (ev_var rfl) (eks_cons (ev_var rfl) (eks_cons (ek_tup (eks_cons (ev_var rfl) (eks_cons (ev_var rfl) evs_nil))) evs_nil)))) (by rw [lo]; show 9 ≤ 100000; decide)).imp fun d e => ⟨_, e, ?_, ?_⟩))
      (fun ds k ab => ab = L1 t (.str z) (.tuple [.str x, .str y, .bool c]) (.list os) (.str x) (.str y)) (fun ds _ => rfl) (fun ds k2 d ab2 Hk N2 td ed e _ hN2 => ?_) (fun ds ab2 _ e => ?_)
    · intro e m
      rcases List.mem_append.mp m with m | m
      · exact to e m
      · suffices h : ∀ e ∈ [PyData.tuple [.str y, .str z, .bool true], .tuple [.str x, .str y, .bool c], .str x, .tuple [.str x, .str y]], Th 5 20000 e from h e m
        simp only [List.forall_mem_cons, List.not_mem_nil, false_imp_iff, implies_true, and_true]
        refine ⟨(th_smalls ?_ (by show 3 ≤ 8; decide)).1.wide (by decide) (by decide), (th_smalls an3 (by show 3 ≤ 8; decide)).1.wide (by decide) (by decide), (Sm.th (sm sx (by decide))).wide (by decide) (by decide), (th_smalls ?_ (by show 2 ≤ 8; decide)).1.wide (by decide) (by decide)⟩
        · simp only [List.forall_mem_cons, List.not_mem_nil, false_imp_iff, implies_true, and_true]
          exact ⟨sm sy (by decide), sm sz (by decide), rfl⟩
        · simp only [List.forall_mem_cons, List.not_mem_nil, false_imp_iff, implies_true, and_true]
          exact ⟨sm sx (by decide), sm sy (by decide)⟩
    · rw [List.length_append, lo]
      show 9 ≤ 100000
      decide
    · subst e
      have th := td d (List.mem_of_getElem? ed)
      have o : okP d := th.ok
      have sh := th.shown (by decide) (by decide)
      obtain ⟨df, dn⟩ := due_fine d
      refine ok_seq (ok_par (i := 8) (j := 12) (χ := (· = [.list [.bool (intB d), .bool (nameB d)], .str d.shown])) (eks_cons (ek_lst (eks_cons ((ek_andV (ek_isi (d := d) (ev_var rfl) (isi_int d)) fun _ => ek_notV (ek_isi (d := d) (ev_var rfl) (isi_bool d))).is (congrArg PyData.bool (int_isi d))) (eks_cons (ek_is nameB (ev_var rfl) o) evs_nil))) (eks_cons (ek_cb (eks_cons (ev_var rfl) evs_nil) (cd_repr sh)) evs_nil)) (fun ds e => by rw [e]; rfl) fun d1 d2 e => ?_)
      cases e
      dsimp only
      refine ok_seq ?_
      refine ok_asgK (i := 8) (d := .list (dueD d)) (ek_addLs (K := K) (xs := [.bool (intB d), .bool (nameB d)]) (ev_var rfl) (eks_cons (ek_is pairB (ev_var rfl) o) (eks_cons (ek_is answerB (ev_var rfl) o) evs_nil)) (by show 4 ≤ 100000; decide)) ?_
      dsimp only
      refine ok_for (K := K) (i := 11) (P := fun ds => True) (src_rng1 (K := K) (Evs.imp' (evs_one (φ := (· = .int 2)) ev_int) fun ds ⟨d, e, e2⟩ => ⟨2, by rw [e, e2]; rfl, True.intro, by decide⟩))
        (fun ds k ab => ab = [.any, .bag, .dat t, .dat (.str z), .dat (.tuple [.str x, .str y, .bool c]), .dat (.list os), .dat d, .any, .dat (.list (dueD d)), .dat (.str x), .dat (.str y), .any, .dat (.str d.shown)]) (fun ds _ => rfl) (fun ds k3 ag ab3 Hk N3 _ _ e _ hN3 => ?_) (fun ds ab3 _ e => ?_)
      · subst e
        refine ok_ifK (c := (!true || !decide (d.shown = d.shown))) (etk_or (a := !true) (etk_not (etk_B (ek_alike (d := .list (dueD d)) (ek_funL judD (d := d) (ev_var rfl) o) (ev_var rfl) df dn))) fun _ => etk_test (ek_op (ek_cb (eks_cons (d := d) (ev_var rfl) evs_nil) (cd_repr sh)) (ev_var rfl) od_neS)) (fun e => ?_) fun _ => ok_next ?_
        · simp at e
        · refine Wk.ok ?_ (hN3 _ rfl)
          exact .keep (.keep (.keep (.keep (.keep (.keep (.keep (.keep (.keep (.keep (.keep (.any (.keep .nil))))))))))))
      · subst e
        refine Wk.ok ?_ (hN2 _ rfl)
        exact .keep (.keep (.keep (.keep (.keep (.keep (.any (.keep (.any (.keep (.keep (.keep (.any .nil))))))))))))
    · subst e
      have e1 : ansP (.tuple [.str x, .str y, .bool c]) := ⟨_, _, _, rfl⟩
      dsimp only
      refine ok_seq ?_
      refine ok_asgK (i := 7) (d := .list [.tuple [.str x, .str y], .tuple [.str x, .str y, .bool (!c)], .tuple [.str y, .str x, .bool c], endsD (.tuple [.str x, .str y, .bool c])]) (ek_lst (z := by show 4 ≤ 100000; decide) (eks_cons (ek_fun1 (f := pairD) (d := .tuple [.str x, .str y, .bool c]) (ev_var rfl) e1) (eks_cons (ek_fun1 (f := contD) (d := .tuple [.str x, .str y, .bool c]) (ev_var rfl) e1) (eks_cons (ek_fun1 (f := mirrD) (d := .tuple [.str x, .str y, .bool c]) (ev_var rfl) e1) (eks_cons (ek_fun1 (f := endsD) (d := .tuple [.str x, .str y, .bool c]) (ev_var rfl) e1) evs_nil))))) ?_
      dsimp only
      refine ok_seq ?_
      have i2 : ∀ {F : List Addr} {ab : List Ab} {te : TE}, Ek Hj F (some (b, l)) ab te (.tuple [.str x, .str y, .bool c]) → Ek Hj F (some (b, l)) ab (tOp (rIx K) te (tC (.int 2))) (.bool c) := fun h => ek_op h ev_int (od_ixT (K := K) (atI_nat (j := 2) rfl))
      refine ok_asgK (i := 8) (d := .list [.tuple [.str x, .str y], .tuple [.str x, .str y, .bool (!c)], .tuple [.str y, .str x, .bool c], endsD (.tuple [.str x, .str y, .bool c])]) (ek_lst (z := by show 4 ≤ 100000; decide) (eks_cons (ek_tup (eks_cons (ev_var rfl) (eks_cons (ev_var rfl) evs_nil))) (eks_cons (ek_tup (eks_cons (ev_var rfl) (eks_cons (ev_var rfl) (eks_cons (ek_notV (i2 (ev_var rfl))) evs_nil)))) (eks_cons (ek_tup (eks_cons (ev_var rfl) (eks_cons (ev_var rfl) (eks_cons (i2 (ev_var rfl)) evs_nil)))) (eks_cons (ek_fun1 (f := endsD) (d := .tuple [.str x, .str y, .bool c]) (ev_var rfl) e1) evs_nil))))) ?_
      dsimp only
      have f1 := fine_list (xs := [.tuple [.str x, .str y], .tuple [.str x, .str y, .bool (!c)], .tuple [.str y, .str x, .bool c], endsD (.tuple [.str x, .str y, .bool c])]) (by
        have p1 := two_fine (sm sx (by decide)) (sm sy (by decide))
        have p2 := two_fine (sm sy (by decide)) (sm sx (by decide))
        simp only [List.forall_mem_cons, List.not_mem_nil, false_imp_iff, implies_true, and_true]
        refine ⟨p1, three_fine (sm sx (by decide)) (sm sy (by decide)), three_fine (sm sy (by decide)) (sm sx (by decide)), ?_⟩
        cases c
        · exact p2
        · exact p1) (by show 4 ≤ 8; decide)
      have f2 := fine_list (xs := [.tuple [.str x, .str y, .bool c], .tuple [.str x, .str y, .bool c]]) (by
        simp only [List.forall_mem_cons, List.not_mem_nil, false_imp_iff, implies_true, and_true]
        exact ⟨three_fine (sm sx (by decide)) (sm sy (by decide)), three_fine (sm sx (by decide)) (sm sy (by decide))⟩) (by show 2 ≤ 8; decide)
      refine ok_ifK (c := (!true || !true)) (etk_or (a := !true) (etk_not (etk_B (ek_alike (ev_var rfl) (ev_var rfl) f1.1 f1.2))) fun _ => etk_not (etk_B (ek_alike (ek_lst (z := by show 2 ≤ 100000; decide) (eks_cons ((ek_fun1 (f := contD) (d := .tuple [.str x, .str y, .bool (!c)]) (ek_op (ev_var rfl) ev_int (od_ixL (K := K) (atI_nat (j := 1) rfl))) ⟨_, _, _, rfl⟩).is (show PyData.tuple [.str x, .str y, .bool (!!c)] = _ by rw [Bool.not_not]))
        (eks_cons ((ek_fun1 (f := mirrD) (d := .tuple [.str y, .str x, .bool c]) (ek_op (ev_var rfl) ev_int (od_ixL (K := K) (atI_nat (j := 2) rfl))) ⟨_, _, _, rfl⟩).is rfl) evs_nil))) (ek_lst (z := by show 2 ≤ 100000; decide) (eks_cons (ev_var rfl) (eks_cons (ev_var rfl) evs_nil))) f2.1 f2.2))) (fun e => (nomatch e)) fun _ => ok_next ?_
      refine Wk.ok ?_ (hN _ rfl)
      exact .keep (.keep (.any (.any (.any (.any (.keep (.any (.any (.any (.any (.keep (.keep .nil))))))))))))
  · subst e
    dsimp only
    refine ok_ret (ek_andV (a := true) (b := true) ((ek_op (ek_funL judD (d := .list (List.replicate 19000 [PyData.none]).flatten) (ek_op (ek_lst (eks_cons ev_non evs_nil)) (ev_int (i := 19000)) (od_repL (by decide) (by decide) (by decide))) ?_) (ek_op (ek_lst (eks_cons ev_bl evs_nil)) (ev_int (i := 4)) (od_repL (xs := [.bool false]) (by decide) (by decide) (by decide))) (od_eqA (K := K) ?_ ?_)).is ?_) fun _ => (ek_op ek_book (ek_op (ek_lst (eks_cons ev_bl evs_nil)) (ev_int (i := 4)) (od_repL (xs := [.bool false]) (by decide) (by decide) (by decide))) (od_eqA (K := K) (by decide +kernel) (by decide +kernel))).is (congrArg PyData.bool (by decide +kernel))) fin
    · show okd (.list (List.replicate (Int.toNat 19000) [PyData.none]).flatten) = true
      simp only [okd]
      exact nones_ok _
    · decide +kernel
    · decide +kernel
    · exact congrArg PyData.bool (by decide +kernel)
end
end K11

/-! the making of Book(["a"]) -/
namespace K11
open PySem PySem.Spec PyProof.Rows L2 Gd
theorem pe_never {X : Cx} {e : Expr} : PE X e (fun _ _ _ => False) := ⟨fun pins s σ H Q I h => h.elim⟩
theorem ps_nev {X : Cx} {e : Stmt} : PS X e (fun _ _ _ => False) := ⟨fun pins s σ H Q I h => h.elim⟩
theorem pss_nev {X : Cx} {e : List Stmt} : PSs X e (fun _ _ _ => False) := ⟨fun pins s σ H Q I h => h.elim⟩
theorem pg_nev {X : Cx} {e : Expr} : PG X e (fun _ _ _ _ => False) := ⟨fun pins s σ H v u Q I r h => h.elim⟩
def rSetU (K : PySem.W.Frag) : List V → Hp → VK → Prop := fun xs H Q => ∃ (l : Addr) (ys : List Str), xs = [.ref l] ∧ SqL K H l (ys.map V.str) ∧ ys.length ≤ 1 ∧ ∀ p, Q (.ref p) H
theorem call_setU {X : Cx} (hc : X.calm = true) : CallR X (.type "set") (rSetU X.K) := by
  intro pins s σ H xs us Q I r h
  obtain ⟨l, ys, rfl, hq, hz, q⟩ := h
  obtain ⟨u, rfl, rx⟩ := vals1 r
  obtain rfl : u = Value.ref l := rx
  obtain ⟨its, r', pl, _⟩ := I.list hq
  exact SS.call_set_listS (I.ok.hd hc) pl.isList (by simpa using strsAre_of r') hz fun h' tk hS hk => ⟨.ref _, H, I.kept (t' := tk) fun b o e => hk b o (Heap.lt_size e) e, rfl, q _⟩
def CalR (P : Program) (w : World) (K : PySem.W.Frag) (mg : Str → Option Value) (base : Heap) (k : Nat) (x : Str) (sp : Sp) : Prop :=
  ∃ (f : Addr) (fd : FuncData) (ps : List Str), mg x = some (.ref f) ∧ PySem.W.keepIn K (.ref f) = true ∧ Binds K fd ps [] ∧ FnOk P w K mg base CX0 k f fd ps sp
section
variable {P : Program} {w : World} {K : PySem.W.Frag} {mg : Str → Option Value} {base : Heap}
theorem calR_of {x : Str} {st : Stmt} {N ps : List Str} {k : Nat} {sp : Sp} (X : K.In base) (G : base.Ns mainGlobals mg) (D : DefAt K x st) (S : FnScope N ps (defScope st))
    (hb : ∀ (kV doc pm : Value) (an : Option Addr) (cdv ct : Value) (us : List Value), us.length = ps.length → bindArgs (PySem.W.fnOf x x (defArgs st) (defBody st) (defScope st) .none kV doc pm an cdv ct) ⟨us, []⟩ = pure (ps.zip us))
    (len : ∀ vs H Q E, sp vs H Q E → vs.length = ps.length)
    (hbody : ∀ (f : Addr) (cdv : Value) (A : Around) (outer : List Env) (s : Shared) (H : Hp) (vs : List V) (Q : VK) (E : XK), Room k (A.deeper (envOfC x (defScope st) s.heap.objs.size f cdv)) → sp vs H Q E →
      ∃ t, PSs (cxOf CX0 P w K mg base N x (defScope st) f cdv A outer s H E).nox (defBody st) t ∧ t { nx := fun _ H' => Q .non H', rt := Q } (L2.start N vs) H) : CalR P w K mg base (k + 1) x sp := by
  obtain ⟨f, oc, od, an, sl, kV, dc, pm, cd, ct, h1, h2, h3, h4⟩ := D
  have FF : L2.Fun K x x st f _ := fun_mk h2 h3 h4
  exact ⟨f, _, ps, PySem.W.mg_of X G h1, h4, FF.binds hb, FF.ok S len fun cdv A outer s H vs Q E hr h => by
    obtain ⟨t, p, q⟩ := hbody f cdv A outer s H vs Q E hr h
    exact ⟨t, p, q⟩⟩
theorem pe_cr {X : Cx} {k j : Nat} {sp : Sp} {x : Str} {p pos : Pos} {e : Expr} {es : List Expr} {t : TA} (c : CalR X.prog X.w X.K X.mg X.base k x sp) (hr : Room j X.A) (hk : k ≤ j) (ha : PA X (e :: es) t) (hg : Gl X x := by rfl)
    (hdb : (x == ("__debug__" : Str)) = false := by decide) (he : starEach (e :: es) X.env = (false, eval e X.env) :: starEach es X.env := by rfl) (hpl : (backTo pos (starEach es X.env)).any (·.1) = false := by rfl) :
    PE X (.Call (.Name x p) (e :: es) [] pos) (tCall sp [] E0 t) := by
  obtain ⟨f, fd, ps, h1, h2, h3, h4⟩ := c
  exact pe_call h4 (hr.mono hk) hg h1 h2 h3 .nil pass0 ha hdb he hpl
theorem ok_is_nameR (X : K.In base) (G : base.Ns mainGlobals mg) (T : Txt mg) {C : Addr} (bc : BookC K C) (D : DefAt K "is_name" sis_name) : CalR P w K mg base 1 "is_name" (SpIsO C nameB) := by
  refine calR_of X G D scis_name (fun _ _ _ _ _ _ us hl => match us, hl with | [_], _ => rfl) (fun vs H Q E h => or_len h) (fun f cdv A outer s H vs Q E hr h => ?_)
  refine ⟨_, (pss_cons (ps_if (PW.pt (pw_or (pt_not (pt_val (pe_callB call_isi (by rfl) T.b_isinstance (by decide +kernel) (pa_cons (pv 0) (pa_cons (pe_bltn (v := .ty "str") (by rfl) T.b_str (by decide +kernel) rfl) pa_nil))))) (pw_or1 (pt_not (pt_chain op_le op_le pe_int (pe_callB call_lenA (by rfl) T.b_len (by decide +kernel) (pa_cons (pv 0) pa_nil)) (C8.pe_gc (by rfl) T.c_LONGEST_NAME))))))
        (pss_one (ps_ret pe_bl))
        pss_nil)
      (pss_one (ps_ret (pe_and (pe_m0 PySem.F.slot_str_isascii PySem.F.type_str_isascii mt_isascii (pv 0)) (pe_and (pe_m0 PySem.F.slot_str_isalpha PySem.F.type_str_isalpha mt_isalpha (pv 0)) (pe_one (pe_m0 PySem.F.slot_str_islower PySem.F.type_str_islower mt_islower (pv 0)))))))), ?_⟩
  rcases h with h | h
  rotate_left
  · exact ins_body h 0 rfl fun F q' => ok_seq (ok_ifK (c := true) (etk_or (a := true) (b := false) (etk_not (etk_B (ek_isiO bc rfl bc.str))) fun z => nomatch z) (fun z => ok_ret ev_bl q') fun z => nomatch z)
  refine fun1_body h 0 rfl fun F d o q => ?_
  have e1 : ∀ F, Ek [H] F none (absOf 0 [d]) (tVar 0) d := fun F => ev_var rfl
  have fin : ∀ b : Bool, b = nameB d → ∀ v r H', St [H] F none H' → Da F H' v r → r = .bool b → Q v H' := fun b e v r H' s' a' p' => q v H' s' (by rw [← e, ← p']; exact a')
  cases d with
  | str x =>
    have lx : x.length ≤ 100000 := Nat.le_trans o.str (by decide)
    refine ok_seq (ok_ifK (etk_or (a := !true) (etk_not (etk_B (ek_isi (e1 F) (isi_str _)))) fun _ => etk_not (etk_test (ek_chain ev_int (ek_cb (eks_cons (e1 F) evs_nil) (cd_lenS (K := K) lx)) ev_int od_B0 od_B0))) (fun z => ?_) fun z => ok_next ?_)
    · refine ok_ret ev_bl (fin false ?_)
      have z' : (decide ((1 : Int) ≤ x.length) && decide ((x.length : Int) ≤ 8)) = false := or_f z
      show false = (_ && _)
      rw [z']
      rfl
    · have z' : (decide ((1 : Int) ≤ x.length) && decide ((x.length : Int) ≤ 8)) = true := or_t z
      have z1 : 1 ≤ x.length := by
        have := of_decide_eq_true (Bool.and_eq_true_iff.mp z').1
        omega
      refine ok_ret (ek_andV (ek_m0 (e1 F)) fun _ => ek_andV (ek_m0 (e1 F)) fun _ => ek_m0 (e1 F)) (fin _ ?_)
      show _ = (_ && _)
      rw [z', Bool.true_and]
      exact text_abc z1
  | none | bool _ | int _ | list _ | tuple _ | dict _ =>
    refine ok_seq (ok_ifK (c := true) (etk_or (a := true) (b := false) (etk_not (etk_B (ek_isi (e1 F) (isi_str _)))) fun z => nomatch z) (fun z => ok_ret ev_bl (fin false rfl)) fun z => nomatch z)
/-! are_names(["a"]) -/
abbrev sare_names : Stmt := top 7
theorem scare_names : FnScope ["thing", "name"] ["thing"] (defScope sare_names) := ⟨rfl, rfl, rfl, by decide +kernel, rfl, by decide +kernel, by decide +kernel⟩
def oneL : PyData := .list [.str "a"]
theorem ek_lenSet {Hi : List Hp} {F : List Addr} {B : Bag} {ab : List Ab} {te : TE} (h : Ek Hi F B ab te oneL) : Ek Hi F B ab (tLenSet K te) (.int 1) := fun σ H Q s l q => h σ H _ s l fun v d H1 c1 s1 a1 e => by
  subst e
  cases a1 with
  | @lst p vs _ nf h1 k1 =>
    cases k1 with
    | cons b1 b2 =>
      cases b2
      cases b1
      exact ⟨p, ["a"], rfl, .inl (.inl (.inl h1)), by decide, q _ _ H1 c1 s1 (.int 1) rfl⟩
theorem ok_are_namesR (X : K.In base) (G : base.Ns mainGlobals mg) (T : Txt mg) {C : Addr} (D : DefAt K "are_names" sare_names) (cis_name : CalR P w K mg base 1 "is_name" (SpIsO C nameB)) : CalR P w K mg base 2 "are_names" (SpP (· = [oneL]) (fun _ r => r = .bool true)) := by
  refine calR_of X G D scare_names (fun _ _ _ _ _ _ us hl => match us, hl with | [_], _ => rfl) (fun vs H Q E h => ?_) (fun f cdv A outer s H vs Q E hr h => ?_)
  · obtain ⟨F, ds, _, a, rfl, _⟩ := h
    exact a.length
  refine ⟨_, (pss_cons (ps_if (pt_not (pt_val (pe_callB call_isiT (by rfl) T.b_isinstance (by decide +kernel) (pa_cons (pv 0) (pa_cons (pe_tup (pa_cons (pe_bltn (v := .ty "list") (by rfl) T.b_list (by decide +kernel) rfl) (pa_cons (pe_bltn (v := .ty "tuple") (by rfl) T.b_tuple (by decide +kernel) rfl) pa_nil))) pa_nil)))))
        (pss_one (ps_ret pe_bl))
        pss_nil)
      (pss_one (ps_ret (pe_and (pe_callB (cr_all rfl) (by rfl) T.b_all (by decide +kernel) (pa_cons (pe_lc (own := [("name", 1)]) rfl scare_names.nd (pi_list (pv 0)) (blkOk_by (by rfl)) (fun _ _ _ _ _ => (pg_name (i := 1) scare_names.nd rfl (Or.inl rfl))) (fun _ _ _ _ _ => pts_nil) (fun _ _ _ _ _ => (pe_cr cis_name hr (by decide) (pa_cons (pv 1) pa_nil)))) pa_nil))
        (pe_one (pe_cmpR (op_eqA hr.units) (pe_lenSet rfl (by rfl) T.b_len (by rfl) T.b_set (pv 0)) (pe_callB call_lenA (by rfl) T.b_len (by decide +kernel) (pa_cons (pv 0) pa_nil)) (nomark _))))))), ?_⟩
  refine pure_body h 1 fun F ds e q => ?_
  subst e
  refine ⟨rfl, ?_⟩
  have e1 : ∀ F, Ek [H] F none (absOf 1 [oneL]) (tVar 0) oneL := fun F => ev_var rfl
  refine ok_seq (ok_ifK (c := !(true || false)) (etk_not (etk_B (ek_isiT (e1 F) (isi_list _) (isi_tup _)))) (fun z => nomatch z) fun z => ok_next ?_)
  refine ok_ret ((ek_andV (a := true) (b := true) (ek_cb (eks_cons (ek_lcMap (i := 1) (ds := [.str "a"]) (f := fun d => .bool (nameB d)) (by exact True.intro) (src_list (K := K) ((e1 F).imp fun d e => ⟨_, e, rfl, by show 1 ≤ 100000; decide⟩)) fun k d ed F' => ?_) evs_nil) (cd_all (K := K) (bs := [true]))) fun _ => (ek_op (ek_lenSet (e1 F)) (ek_cb (eks_cons (e1 F) evs_nil) (cd_lenL (K := K))) od_eqI).is rfl)) fun v r H' s' a' p => q v r H' s' a' p
  have m := List.mem_of_getElem? ed
  simp at m
  subst m
  exact ek_isL nameB (ev_var rfl) (by show okd (.str "a") = true; decide +kernel)
/-! the default: an empty tuple of the text's -/
structure Dft (K : PySem.W.Frag) (a : Addr) : Prop where
  at_ : ∃ (o : Obj) (n : Nat), K.lookup a = some o ∧ o.cls = .type "tuple" ∧ o.data = .seq #[] n
theorem Dft.sq {a : Addr} (h : Dft K a) (H : Hp) : SqT K H a [] := by
  obtain ⟨o, n, h1, h2, h3⟩ := h.at_
  exact .inr ⟨o, #[], n, h1, h2, h3, by show 0 ≤ sizeLine; exact Nat.zero_le _, .nil⟩
theorem Dft.ty {a : Addr} (h : Dft K a) (H : Hp) : TyX K H (.ref a) (.type "tuple") := by
  obtain ⟨o, n, h1, h2, h3⟩ := h.at_
  exact .kTuple h1 h2
abbrev sare_answers : Stmt := top 8
theorem scare_answers : FnScope ["thing", "answer"] ["thing"] (defScope sare_answers) := ⟨rfl, rfl, rfl, by decide +kernel, rfl, by decide +kernel, by decide +kernel⟩
def SpDf (a : Addr) (r : V) : Sp := fun vs H Q _ => vs = [.ref a] ∧ ∀ H', Gr [] H H' → Q r H'
theorem ok_are_answersR (X : K.In base) (G : base.Ns mainGlobals mg) (T : Txt mg) {a : Addr} (d : Dft K a) (D : DefAt K "are_answers" sare_answers) : CalR P w K mg base 1 "are_answers" (SpDf a (.bl true)) := by
  refine calR_of X G D scare_answers (fun _ _ _ _ _ _ us hl => match us, hl with | [_], _ => rfl) (fun vs H Q E h => ?_) (fun f cdv A outer s H vs Q E hr h => ?_)
  · obtain ⟨rfl, _⟩ := h
    rfl
  refine ⟨_, (pss_one (ps_ret (pe_and (pe_callB call_isiT (by rfl) T.b_isinstance (by decide +kernel) (pa_cons (pv 0) (pa_cons (pe_tup (pa_cons (pe_bltn (v := .ty "list") (by rfl) T.b_list (by decide +kernel) rfl) (pa_cons (pe_bltn (v := .ty "tuple") (by rfl) T.b_tuple (by decide +kernel) rfl) pa_nil))) pa_nil)))
    (pe_one (pe_callB (cr_all rfl) (by rfl) T.b_all (by decide +kernel) (pa_cons (pe_lc (own := [("answer", 1)]) rfl scare_answers.nd (pi_tup (pv 0)) (blkOk_by (by rfl)) (fun _ _ _ _ _ => pg_nev) (fun _ _ _ _ _ => pts_nil) (fun _ _ _ _ _ => pe_never)) pa_nil)))))), ?_⟩
  obtain ⟨rfl, q⟩ := h
  refine ⟨_, rfl, (by show 2 ≤ sizeLine; decide), fun t ht => ?_⟩
  have g1 : Gr [] H (upd H t (.tup [.ty "list", .ty "tuple"])) := Gr.new ht
  refine ⟨.ref a, t, [.ty "list", .ty "tuple"], .type "tuple", [.type "list", .type "tuple"], true, rfl, upd_same, .cons (.ty "list") (.cons (.ty "tuple") .nil), d.ty _, ?_, true, rfl, iteT ?_⟩
  · exact kitAny_cons (kit_ty (r := false) rfl) (fun _ => kitAny_cons (kit_ty (r := true) rfl) (fun z => nomatch z) fun _ => rfl) fun z => nomatch z
  refine ⟨_, rfl, a, rfl, ⟨[], d.sq _⟩, fun D hD => ⟨fun i m H' => i = 0 ∧ H' = upd (upd H t (.tup [.ty "list", .ty "tuple"])) D (.lst []), ⟨0, rfl, rfl⟩, ?_⟩⟩
  rintro i m H' ⟨rfl, rfl⟩
  refine .inl ⟨⟨[], d.sq _, Nat.le_refl _⟩, ⟨D, [], rfl, .inl (.inl upd_same), ?_⟩⟩
  exact q _ (g1.trans (Gr.new hD))
abbrev s_first_stranger : Stmt := top 9
theorem sc_first_stranger : FnScope ["things", "pairs", "known", "pair", "name"] ["things", "pairs"] (defScope s_first_stranger) := ⟨rfl, rfl, rfl, by decide +kernel, rfl, by decide +kernel, by decide +kernel⟩
def SpStr : Sp := fun vs H Q _ => ∃ l r, vs = [.ref l, .ref r] ∧ H l = some (.lst [.str "a"]) ∧ H r = some (.lst []) ∧ Q .non H
theorem ok_strangerR (X : K.In base) (G : base.Ns mainGlobals mg) (T : Txt mg) (D : DefAt K "first_stranger" s_first_stranger) : CalR P w K mg base 1 "first_stranger" SpStr := by
  refine calR_of X G D sc_first_stranger (fun _ _ _ _ _ _ us hl => match us, hl with | [_, _], _ => rfl) (fun vs H Q E h => ?_) (fun f cdv A outer s H vs Q E hr h => ?_)
  · obtain ⟨l, r, rfl, _⟩ := h
    rfl
  refine ⟨_, (pss_cons (ps_set (i := 2) sc_first_stranger.nd rfl (Or.inl rfl) (pe_callTy (call_setU rfl) (by rfl) T.b_set (by decide +kernel) (pa_cons (pv 0) pa_nil)))
      (pss_cons (ps_for PassesOwn.never rfl (pi_list (pv 1)) pg_nev pss_nev)
      (pss_one (ps_ret pe_non)))), ?_⟩
  obtain ⟨l, r, rfl, hl, hr', q⟩ := h
  refine ⟨_, rfl, l, ["a"], rfl, .inl (.inl hl), by decide, fun p => ?_⟩
  refine ⟨_, rfl, r, rfl, ⟨[], .inl (.inl hr')⟩, fun i m σ' H' => i = 0 ∧ H' = H, ⟨0, rfl, rfl⟩, ?_⟩
  rintro i m σ' H' ⟨rfl, rfl⟩
  exact .inl ⟨⟨[], .inl (.inl hr'), Nat.le_refl _⟩, q⟩
/-! __init__ -/
abbrev sInit : Stmt := inClass (top 21) 0
theorem scInit : FnScope ["self", "things", "answers", "stranger", "truths", "answer", "pair", "truth", "x", "y"] ["self", "things", "answers"] (C8.fnScope sInit) := ⟨rfl, rfl, rfl, by decide +kernel, rfl, by decide +kernel, by decide +kernel⟩
theorem ok_init (X : K.In base) (G : base.Ns mainGlobals mg) (T : Txt mg) {C f a : Addr} {fd : FuncData} (M : Mk K C f) (hm : mg "Book" = some (.ref C)) (FF : C8.Fun K "__init__" "Book.__init__" sInit f fd) (b : Binds K fd ["self", "things", "answers"] [.ref a]) (dd : Dft K a)
    (cl : Cls K C) (n1 : NoAttr K C "_things") (n2 : NoAttr K C "_truths") (n3 : NoAttr K C "_answers") (n4 : NoAttr K C "kept") (care_names : CalR P w K mg base 2 "are_names" (SpP (· = [oneL]) (fun _ r => r = .bool true))) (care_answers : CalR P w K mg base 1 "are_answers" (SpDf a (.bl true)))
    (c_first_stranger : CalR P w K mg base 1 "first_stranger" SpStr) : C8.Mak P w K mg base 3 "Book" C (SpInit C [.ref a]) [.ref a] := by
  refine C8.mak0 M hm FF b (.cons rfl .nil) scInit (fun vs H Q E h => ?_) (fun cdv A outer s H vs Q E hr h => ?_)
  · obtain ⟨x, dx, l, rfl, _⟩ := h
    rfl
  refine ⟨_, (pss_cons (ps_if (pt_not (pt_val (pe_cr care_names hr (by decide) (pa_cons (pv 1) pa_nil)))) (pss_one ps_nev) pss_nil)
      (pss_cons (ps_if (pt_not (pt_val (pe_cr care_answers hr (by decide) (pa_cons (pv 2) pa_nil)))) (pss_one ps_nev) pss_nil)
      (pss_cons (ps_set (i := 3) scInit.nd rfl (Or.inl rfl) (pe_cr c_first_stranger hr (by decide) (pa_cons (pv 1) (pa_cons (pe_lc (own := [("answer", 5)]) rfl scInit.nd (pi_tup (pv 2)) (blkOk_by (by rfl)) (fun _ _ _ _ _ => pg_nev) (fun _ _ _ _ _ => pts_nil) (fun _ _ _ _ _ => pe_never)) pa_nil))))
      (pss_cons (ps_if (pt_cmpR op_notN (pv 3) pe_non (nomark _)) (pss_one ps_nev) pss_nil)
      (pss_cons (ps_set (i := 4) scInit.nd rfl (Or.inr rfl) pe_dnewK)
      (pss_cons (ps_for PassesOwn.never rfl (pi_tup (pv 2)) pg_nev pss_nev)
      (pss_cons (ps_fld (pv 0) (pe_callB cr_sortedS (by rfl) T.b_sorted (by decide +kernel) (pa_cons (pv 1) pa_nil)) rfl)
      (pss_cons (ps_fld (pv 0) (pv 4) rfl)
      (pss_cons (ps_fld (pv 0) (pe_lc (own := [("x", 8), ("y", 9)]) rfl scInit.nd (pi_list (pe_callB (call_sortedD rfl) (by rfl) T.b_sorted (by decide +kernel) (pa_cons (pv 4) pa_nil))) (blkOk_by (by rfl)) (fun _ _ _ _ _ => pg_nev) (fun _ _ _ _ _ => pts_nil) (fun _ _ _ _ _ => pe_never)) rfl)
      (pss_one (ps_fld (pv 0) pe_dnewK rfl))))))))))), ?_⟩
  obtain ⟨x, dx, l, rfl, xl, hx, hl, q⟩ := h
  refine ⟨_, rfl, [], [oneL], fun p m => (nomatch m), .cons (.lst (fun m => (nomatch m)) hl (.cons (.str "a") .nil)) .nil, rfl, fun v d H1 g1 a1 e1 => ?_⟩
  subst e1
  cases a1
  refine ⟨true, rfl, iteF ?_⟩
  refine ⟨_, rfl, rfl, fun H2 g2 => ⟨true, rfl, iteF ?_⟩⟩
  have hl2 := g2 _ _ (fun z => nomatch z) (g1 _ _ (fun z => nomatch z) hl)
  have hx2 := g2 _ _ (fun z => nomatch z) (g1 _ _ (fun z => nomatch z) hx)
  refine ⟨_, rfl, _, rfl, a, rfl, ⟨[], dd.sq _⟩, fun R hR => ⟨fun i m H' => i = 0 ∧ H' = upd H2 R (.lst []), ⟨0, rfl, rfl⟩, ?_⟩⟩
  rintro i m H' ⟨rfl, rfl⟩
  have lR : l ≠ R := ne_of_none hl2 hR
  refine .inl ⟨⟨[], dd.sq _, Nat.le_refl _⟩, ?_⟩
  refine ⟨l, R, rfl, by rw [upd_ne lR]; exact hl2, upd_same, ?_⟩
  refine ⟨_, rfl, rfl, false, rfl, iteF ?_⟩
  have g3 : Gr [] H2 (upd H2 R (.lst [])) := Gr.new hR
  generalize upd H2 R (.lst []) = H3 at *
  have hl3 := g3 _ _ (fun z => nomatch z) hl2
  have hx3 := g3 _ _ (fun z => nomatch z) hx2
  have kp3 : Gr [] H H3 := (g1.trans g2).trans g3
  intro D hD
  refine ⟨_, rfl, a, rfl, ⟨[], dd.sq _⟩, fun i m σ' H' => i = 0 ∧ σ' = [some (.ref x), some (.ref l), some (.ref a), some .non, some (.ref D), none, none, none, none, none] ∧ H' = upd H3 D (.dK []), ⟨0, rfl, rfl, rfl⟩, ?_⟩
  rintro i m σ' H' ⟨rfl, rfl, rfl⟩
  refine .inl ⟨⟨[], dd.sq _, Nat.le_refl _⟩, ?_⟩
  have xD : x ≠ D := ne_of_none hx3 hD
  have lD : l ≠ D := ne_of_none hl3 hD
  refine ⟨_, rfl, l, ["a"], rfl, .inl (.inl (by rw [upd_ne lD]; exact hl3)), by decide, fun ys p _ _ hp => ?_⟩
  have xp : x ≠ p := ne_of_none (by rw [upd_ne xD]; exact hx3) hp
  have Dp : D ≠ p := ne_of_none upd_same hp
  refine ⟨_, rfl, x, C, dx, [], rfl, (by rw [upd_ne xp, upd_ne xD]; exact hx3), cl, n1, (by show 0 < 1000; decide), ?_⟩
  refine ⟨_, rfl, _, rfl, x, C, dx, _, rfl, upd_same, cl, n2, (by show 1 < 1000; decide), ?_⟩
  refine ⟨_, rfl, D, [], [], rfl, .inl (by rw [upd_ne xD.symm, upd_ne xD.symm, upd_ne Dp]; exact upd_same), rfl, by decide, fun zs r hz _ hr2 => ?_⟩
  cases (List.Perm.eq_nil hz)
  have xr : x ≠ r := ne_of_none upd_same hr2
  refine ⟨r, rfl, ⟨[], .inl (.inl upd_same)⟩, fun W hW => ⟨fun i m H' => i = 0 ∧ H' = upd _ W (.lst []), ⟨0, rfl, rfl⟩, ?_⟩⟩
  rintro i m H' ⟨rfl, rfl⟩
  have rW : r ≠ W := ne_of_none upd_same hW
  have xW : x ≠ W := ne_of_none (by rw [upd_ne xr]; exact upd_same) hW
  refine .inl ⟨⟨[], .inl (.inl (by rw [upd_ne rW]; exact upd_same)), Nat.le_refl _⟩, ?_⟩
  refine ⟨_, rfl, x, C, dx, _, rfl, (by rw [upd_ne xW, upd_ne xr]; exact upd_same), cl, n3, (by show 2 < 1000; decide), ?_⟩
  intro k hk
  have xk : x ≠ k := ne_of_none upd_same hk
  refine ⟨_, rfl, x, C, dx, _, rfl, (by rw [upd_ne xk]; exact upd_same), cl, n4, (by show 3 < 1000; decide), ?_⟩
  refine q _ ⟨_, upd_same⟩ fun c u ncx ncd e => ?_
  have e3 := kp3 c u (fun z => nomatch z) e
  have cD : c ≠ D := ne_of_none e3 hD
  have cp : c ≠ p := ne_of_none (by rw [upd_ne cD]; exact e3) hp
  have cr : c ≠ r := ne_of_none (by rw [upd_ne ncx, upd_ne ncx, upd_ne cp, upd_ne cD]; exact e3) hr2
  have cW : c ≠ W := ne_of_none (by rw [upd_ne cr, upd_ne ncx, upd_ne ncx, upd_ne cp, upd_ne cD]; exact e3) hW
  have ck : c ≠ k := ne_of_none (by rw [upd_ne ncx, upd_ne cW, upd_ne cr, upd_ne ncx, upd_ne ncx, upd_ne cp, upd_ne cD]; exact e3) hk
  rw [upd_ne ncx, upd_ne ck, upd_ne ncx, upd_ne cW, upd_ne cr, upd_ne ncx, upd_ne ncx, upd_ne cp, upd_ne cD]
  exact e3
end
end K11

namespace K11
open PySem PySem.Spec PyProof.Rows L2 Gd
theorem at_mk {K : PySem.W.Frag} {x : Str} {st : Stmt} {f : Addr} {oc : Value} {od an : Option Addr} {sl : Array (Option Value)} {kV dc pm cd ct : Value} (h1 : PySem.W.nsIn K mainGlobals x = some (some (.ref f)))
    (h2 : K.lookup f = some ⟨oc, od, .func (PySem.W.fnOf x x (defArgs st) (defBody st) (defScope st) .none kV dc pm an cd ct), sl⟩) (h3 : PySem.W.codeIn K cd x = true) (h4 : PySem.W.keepIn K (.ref f) = true) : DefAt K x st := ⟨f, oc, od, an, sl, kV, dc, pm, cd, ct, h1, h2, h3, h4⟩
theorem all_mk {l : PySem.W.OpenLaw} {w : World} {K : PySem.W.Frag} {h : Heap} {mg : Str → Option Value} {fa f1 : Addr} (X : K.In h) (G : h.Ns mainGlobals mg) (hfa : mg "law" = some (.ref fa))
    {od1 an1 : Option Addr} {sl1 : Array (Option Value)} {oc1 kV1 dc1 pm1 cd1 ct1 : Value} {t2 : Tok}
    (a1 : PySem.W.nsIn K mainGlobals "law" = some (some (.ref f1))) (l1 : K.lookup f1 = some ⟨oc1, od1, .func (PySem.W.fnOf "law" "law" (defArgs slaw) (defBody slaw) (defScope slaw) .none kV1 dc1 pm1 an1 cd1 ct1), sl1⟩) (c1 : PySem.W.codeIn K cd1 "law" = true) (k1 : PySem.W.keepIn K (.ref f1) = true)
    (d_is_integer : DefAt K "is_integer" sis_integer) (d_is_name : DefAt K "is_name" sis_name) (d_is_pair : DefAt K "is_pair" sis_pair) (d_is_answer : DefAt K "is_answer" sis_answer)
    (d_pair_of : DefAt K "pair_of" spair_of) (d_contrary : DefAt K "contrary" scontrary) (d_mirrored : DefAt K "mirrored" smirrored) (d_ends_of : DefAt K "ends_of" sends_of)
    (d_bag : DefAt K "_law_bag" s_law_bag) (d_take : DefAt K "_law_take" s_law_take) (d_alike : DefAt K "_law_alike" s_law_alike) (d_pick : DefAt K "_law_pick" s_law_pick) (d_mix : DefAt K "_law_mix" s_law_mix)
    (d_names : DefAt K "_law_names" s_law_names) (d_leads : DefAt K "_law_leads" s_law_leads) (d_lname : DefAt K "_law_is_name" s_law_is_name) (d_lnames : DefAt K "_law_are_names" s_law_are_names) (d_lpair : DefAt K "_law_is_pair" s_law_is_pair)
    (d_lanswer : DefAt K "_law_is_answer" s_law_is_answer) (d_odd : DefAt K "_law_odd" s_law_odd) (d_near : DefAt K "_law_near" s_law_near) (d_judged : DefAt K "_law_judged" s_law_judged) (d_signed : DefAt K "_law_signed" s_law_signed)
    {C fI T0 a0 : Addr} {ocI kVI dcI pmI cdI ctI : Value} {odI anI odT odA : Option Addr} {slI slT slA : Array (Option Value)} {nT nA : Nat}
    (aC : PySem.W.nsIn K mainGlobals "Book" = some (some (.ref C))) (mk : PySem.W.makesIn K C = true) (ai : PySem.W.findIn K (.ref C) "__init__" = some (some (.ref fI))) (ii : PySem.W.isFn K (.ref fI) = true) (kc : PySem.W.keepIn K (.ref C) = true)
    (lI : K.lookup fI = some ⟨ocI, odI, .func (PySem.W.fnOf "__init__" "Book.__init__" (defArgs sInit) (defBody sInit) (defScope sInit) (.ref T0) kVI dcI pmI anI cdI ctI), slI⟩) (cI : PySem.W.codeIn K cdI "Book.__init__" = true) (kI : PySem.W.keepIn K (.ref fI) = true)
    (lT : K.lookup T0 = some ⟨.type "tuple", odT, .seq #[.ref a0] nT, slT⟩) (lA : K.lookup a0 = some ⟨.type "tuple", odA, .seq #[] nA, slA⟩)
    (pg : PySem.W.plainGet K C Str.empty = true) (hd : PySem.W.hasDictIn K C = true) (po : PySem.W.plainOver K C = true) (sa : PySem.W.findIn K (.ref C) "__setattr__" = some (some (.builtin "object.__setattr__")))
    (n1 : PySem.W.findIn K (.ref C) "_things" = some none) (n2 : PySem.W.findIn K (.ref C) "_truths" = some none) (n3 : PySem.W.findIn K (.ref C) "_answers" = some none) (n4 : PySem.W.findIn K (.ref C) "kept" = some none)
    (b1 : PySem.W.findIn K (.ref C) "__class__" = some (some (.builtin "object.__class__"))) (b2 : PySem.W.specialIn K (.builtin "object.__class__") "__get__" = some (some (.builtin "getset_descriptor.__get__"))) (b3 : PySem.W.takesIn K (.builtin "object.__class__") = some true)
    (b4 : PySem.W.mroIn K C (.type "object") = some true) (b5 : PySem.W.kitOne K (.ref C) (.ref C) = some true) (b6 : PySem.W.kitOne K (.ref C) (.type "str") = some false) (b7 : PySem.W.kitOne K (.ref C) (.type "int") = some false) (b8 : PySem.W.kitOne K (.ref C) (.type "tuple") = some false)
    (d_are_names : DefAt K "are_names" sare_names) (d_are_answers : DefAt K "are_answers" sare_answers) (d_stranger : DefAt K "first_stranger" s_first_stranger)
    (z_int : PySem.W.nsIn K mainGlobals "int" = some none) (z_abs : PySem.W.nsIn K mainGlobals "abs" = some none) (z_len : PySem.W.nsIn K mainGlobals "len" = some none) (z_repr : PySem.W.nsIn K mainGlobals "repr" = some none)
    (z_isinstance : PySem.W.nsIn K mainGlobals "isinstance" = some none) (z_list : PySem.W.nsIn K mainGlobals "list" = some none) (z_tuple : PySem.W.nsIn K mainGlobals "tuple" = some none) (z_str : PySem.W.nsIn K mainGlobals "str" = some none)
    (z_bool : PySem.W.nsIn K mainGlobals "bool" = some none) (z_all : PySem.W.nsIn K mainGlobals "all" = some none) (z_range : PySem.W.nsIn K mainGlobals "range" = some none) (z_set : PySem.W.nsIn K mainGlobals "set" = some none) (z_sorted : PySem.W.nsIn K mainGlobals "sorted" = some none)
    (z_longest : PySem.W.nsIn K mainGlobals "LONGEST_NAME" = some (some (.int 8 t2))) :
    ∃ fd : FuncData, (∀ (s : Shared) (v : Value), BindsTo s fd ⟨[v], []⟩ [("_law_script", v)]) ∧ ∀ base : Heap, K.In base → base.Ns mainGlobals mg → FnG l.prog w K mg base CX0 5 fa fd ["_law_script"] (SpLaw K) := by
  have e := hfa.symm.trans (PySem.W.mg_of X G a1)
  cases e
  have F1 := fun_mk (st := slaw) l1 c1 k1
  have N : ∀ {x : Str}, PySem.W.nsIn K mainGlobals x = some none → mg x = none := fun z => PySem.W.mg_none_of X G z
  have T : Txt mg := ⟨N z_int, N z_abs, N z_len, N z_repr, N z_isinstance, N z_list, N z_tuple, N z_str, N z_bool, N z_all, N z_range, N z_set, N z_sorted, ⟨_, PySem.W.mg_of X G z_longest, _, rfl⟩⟩
  refine ⟨PySem.W.fnOf "law" "law" (defArgs slaw) (defBody slaw) (defScope slaw) .none kV1 dc1 pm1 an1 cd1 ct1, fun s v => .of_eq rfl, fun base Xb Gb => ?_⟩
  have take := ok_take (P := l.prog) (w := w) Xb Gb T d_take
  have alike := ok_alike (P := l.prog) (w := w) Xb Gb T d_alike
  have pick := ok_pick Xb Gb T d_pick take
  have mix := ok_mix Xb Gb T d_mix take
  have cl : Cls K C := ⟨pg, hd, po, sa⟩
  have bc : BookC K C := ⟨⟨cl, b1, b2, b3, b4, b5⟩, b6, b7, b8⟩
  have integer := ok_is_integer (P := l.prog) (w := w) Xb Gb T bc d_is_integer
  have name := ok_is_name (P := l.prog) (w := w) Xb Gb T bc d_is_name
  have pair := ok_is_pair Xb Gb T bc d_is_pair name
  have answer := ok_is_answer Xb Gb T bc d_is_answer pair
  have nameR := ok_is_nameR (P := l.prog) (w := w) Xb Gb T bc d_is_name
  have dd : Dft K a0 := ⟨_, nA, lA, rfl, rfl⟩
  have bI : Binds K (PySem.W.fnOf "__init__" "Book.__init__" (defArgs sInit) (defBody sInit) (defScope sInit) (.ref T0) kVI dcI pmI anI cdI ctI) ["self", "things", "answers"] [.ref a0] := by
    have FD : FunD K "__init__" "Book.__init__" (defArgs sInit) (defBody sInit) (defScope sInit) [V.ref a0] [] fI (PySem.W.fnOf "__init__" "Book.__init__" (defArgs sInit) (defBody sInit) (defScope sInit) (.ref T0) kVI dcI pmI anI cdI ctI) :=
      ⟨⟨ocI, odI, .ref T0, kVI, dcI, pmI, anI, cdI, ctI, slI, rfl, lI, cI, .inr ⟨by simp, T0, _, [.ref a0], nT, rfl, lT, rfl, .cons rfl .nil⟩, .inl rfl⟩, kI⟩
    obtain ⟨ds, rv, hb⟩ := FD.binds1 (ps := ["self", "things", "answers"]) 2 0 (by simp) rfl fun T kV doc pm an cdv ct us its hu hi => match us, its, hu, hi with | [_, _], [_], _, _ => ⟨_, rfl, rfl⟩
    have rv' : Vals [V.ref a0] ds := rv
    cases rv' with
    | @cons _ u _ _ r1 r2 =>
      cases r2
      obtain rfl : u = Value.ref a0 := r1
      exact hb
  have book := ok_init (P := l.prog) (w := w) Xb Gb T ⟨mk, ai, ii, kc⟩ (PySem.W.mg_of X G aC) ⟨⟨ocI, odI, .ref T0, kVI, dcI, pmI, anI, cdI, ctI, slI, rfl, lI, cI⟩⟩ bI dd cl n1 n2 n3 n4 (ok_are_namesR Xb Gb T d_are_names nameR) (ok_are_answersR Xb Gb T dd d_are_answers) (ok_strangerR Xb Gb T d_stranger)
  have lname := ok_law_is_name (P := l.prog) (w := w) Xb Gb T d_lname
  have lnames := ok_are_names Xb Gb T d_lnames lname
  have lpair := ok_law_is_pair Xb Gb T d_lpair lnames
  have lanswer := ok_law_is_answer Xb Gb T d_lanswer lpair
  have judged := ok_judged Xb Gb T d_judged integer name pair answer
  have signed := ok_signed Xb Gb T d_signed take pick
  have odd := ok_odd Xb Gb T d_odd take pick
  have near := ok_near Xb Gb T d_near take odd
  have names := ok_names Xb Gb T d_names take mix
  exact ok_law Xb Gb T F1 (ok_bagL Xb Gb T d_bag) names signed take odd near lname lpair lanswer book judged alike (ok_pair_of Xb Gb T d_pair_of) (ok_contrary Xb Gb T d_contrary) (ok_mirrored Xb Gb T d_mirrored) (ok_ends_of Xb Gb T d_ends_of) (ok_leads Xb Gb T d_leads)
theorem walk {l : PySem.W.OpenLaw} {q : Program} {loose : List Str} {XP : (Str → Option Value) → Heap → Prop} {YP : World → Heap → Prop} {d : DefRec} {K : Params → PySem.W.Frag} (hn : l.most = some 63) (hdf : d.params.defaults = [])
    (hY : ∀ (w : World) (h : Heap), YP w h → (K w.params).In h)
    (F : ∀ (w : World) (mg : Str → Option Value) (fa : Addr) (h : Heap), (K w.params).In h → h.Ns mainGlobals mg → mg d.name = some (.ref fa) →
      ∃ fd : FuncData, (∀ (s : Shared) (u : Value), BindsTo s fd ⟨[u], []⟩ [("_law_script", u)]) ∧ ∀ base : Heap, (K w.params).In base → base.Ns mainGlobals mg → FnG l.prog w (K w.params) mg base CX0 5 fa fd ["_law_script"] (SpLaw (K w.params))) :
    PySem.W.WalkO q loose XP YP l.row.toRowW d [] (fun f vs => PySem.call f vs) :=
  Gd.walk_ofG (n := 63) (k := 5) (x := "_law_script") (CX := fun _ => CX0) (sp := fun w => SpLaw (K w.params)) hn (by decide) hdf ⟨rfl, by decide, by decide⟩ hY F (fun _ _ a ns hl _ hS => ⟨a, ns, rfl, hS, fun _ => rfl⟩) fun _ _ _ _ _ z => z
end K11

open PySem PySem.W PyProof.Rows
set_option Elab.async false
set_option maxRecDepth 100000 in
set_option maxHeartbeats 0 in
theorem PySem.Challenge.cw_barelybetter_k11_kinds_holds : PySem.Challenge.rw_barelybetter_k11_kinds.Holds := by
  w_on; o_law; k_head; (case hw => w_witness2)
  k_fill
  refine K11.walk (l := PySem.Challenge.rw_barelybetter_k11_kinds) rfl rfl (fun w h Y => PySem.W.kIn_of Y) ?F
  case F =>
    intro w mg fa h KX G hmg
    refine' K11.all_mk KX G hmg ?a1 ?l1 ?c1 ?k1 (K11.at_mk ?p0 ?q0 ?r0 ?s0) (K11.at_mk ?p1 ?q1 ?r1 ?s1) (K11.at_mk ?p2 ?q2 ?r2 ?s2) (K11.at_mk ?p3 ?q3 ?r3 ?s3) (K11.at_mk ?p4 ?q4 ?r4 ?s4) (K11.at_mk ?p5 ?q5 ?r5 ?s5) (K11.at_mk ?p6 ?q6 ?r6 ?s6) (K11.at_mk ?p7 ?q7 ?r7 ?s7) (K11.at_mk ?p8 ?q8 ?r8 ?s8) (K11.at_mk ?p9 ?q9 ?r9 ?s9) (K11.at_mk ?p10 ?q10 ?r10 ?s10) (K11.at_mk ?p11 ?q11 ?r11 ?s11) (K11.at_mk ?p12 ?q12 ?r12 ?s12) (K11.at_mk ?p13 ?q13 ?r13 ?s13) (K11.at_mk ?p14 ?q14 ?r14 ?s14) (K11.at_mk ?p15 ?q15 ?r15 ?s15) (K11.at_mk ?p16 ?q16 ?r16 ?s16) (K11.at_mk ?p17 ?q17 ?r17 ?s17) (K11.at_mk ?p18 ?q18 ?r18 ?s18) (K11.at_mk ?p19 ?q19 ?r19 ?s19) (K11.at_mk ?p20 ?q20 ?r20 ?s20) (K11.at_mk ?p21 ?q21 ?r21 ?s21) (K11.at_mk ?p22 ?q22 ?r22 ?s22) ?aC ?mk ?ai ?ii ?kc ?lI ?cI ?kI ?lT ?lA ?pg ?hd ?po ?sa ?n1 ?n2 ?n3 ?n4 ?b1 ?b2 ?b3 ?b4 ?b5 ?b6 ?b7 ?b8 (K11.at_mk ?pp0 ?qq0 ?rr0 ?ss0) (K11.at_mk ?pp1 ?qq1 ?rr1 ?ss1) (K11.at_mk ?pp2 ?qq2 ?rr2 ?ss2) ?z0 ?z1 ?z2 ?z3 ?z4 ?z5 ?z6 ?z7 ?z8 ?z9 ?z10 ?z11 ?z12 ?z13 
    (case a1 => k_is); (case l1 => k_is); (case c1 => k_is); (case k1 => k_is)
    (case p0 => k_is); (case q0 => k_is); (case r0 => k_is); (case s0 => k_is)
    (case p1 => k_is); (case q1 => k_is); (case r1 => k_is); (case s1 => k_is)
    (case p2 => k_is); (case q2 => k_is); (case r2 => k_is); (case s2 => k_is)
    (case p3 => k_is); (case q3 => k_is); (case r3 => k_is); (case s3 => k_is)
    (case p4 => k_is); (case q4 => k_is); (case r4 => k_is); (case s4 => k_is)
    (case p5 => k_is); (case q5 => k_is); (case r5 => k_is); (case s5 => k_is)
    (case p6 => k_is); (case q6 => k_is); (case r6 => k_is); (case s6 => k_is)
    (case p7 => k_is); (case q7 => k_is); (case r7 => k_is); (case s7 => k_is)
    (case p8 => k_is); (case q8 => k_is); (case r8 => k_is); (case s8 => k_is)
    (case p9 => k_is); (case q9 => k_is); (case r9 => k_is); (case s9 => k_is)
    (case p10 => k_is); (case q10 => k_is); (case r10 => k_is); (case s10 => k_is)
    (case p11 => k_is); (case q11 => k_is); (case r11 => k_is); (case s11 => k_is)
    (case p12 => k_is); (case q12 => k_is); (case r12 => k_is); (case s12 => k_is)
    (case p13 => k_is); (case q13 => k_is); (case r13 => k_is); (case s13 => k_is)
    (case p14 => k_is); (case q14 => k_is); (case r14 => k_is); (case s14 => k_is)
    (case p15 => k_is); (case q15 => k_is); (case r15 => k_is); (case s15 => k_is)
    (case p16 => k_is); (case q16 => k_is); (case r16 => k_is); (case s16 => k_is)
    (case p17 => k_is); (case q17 => k_is); (case r17 => k_is); (case s17 => k_is)
    (case p18 => k_is); (case q18 => k_is); (case r18 => k_is); (case s18 => k_is)
    (case p19 => k_is); (case q19 => k_is); (case r19 => k_is); (case s19 => k_is)
    (case p20 => k_is); (case q20 => k_is); (case r20 => k_is); (case s20 => k_is)
    (case p21 => k_is); (case q21 => k_is); (case r21 => k_is); (case s21 => k_is)
    (case p22 => k_is); (case q22 => k_is); (case r22 => k_is); (case s22 => k_is)
    (case aC => k_is)
    (case mk => k_is)
    (case ai => k_is)
    (case ii => k_is)
    (case kc => k_is)
    (case lI => k_is)
    (case cI => k_is)
    (case kI => k_is)
    (case lT => k_is)
    (case lA => k_is)
    (case pg => k_is)
    (case hd => k_is)
    (case po => k_is)
    (case sa => k_is)
    (case n1 => k_is)
    (case n2 => k_is)
    (case n3 => k_is)
    (case n4 => k_is)
    (case b1 => k_is)
    (case b2 => k_is)
    (case b3 => k_is)
    (case b4 => k_is)
    (case b5 => kit_is)
    (case b6 => kit_is)
    (case b7 => kit_is)
    (case b8 => kit_is)
    (case pp0 => k_is); (case qq0 => k_is); (case rr0 => k_is); (case ss0 => k_is)
    (case pp1 => k_is); (case qq1 => k_is); (case rr1 => k_is); (case ss1 => k_is)
    (case pp2 => k_is); (case qq2 => k_is); (case rr2 => k_is); (case ss2 => k_is)
    (case z0 => k_is)
    (case z1 => k_is)
    (case z2 => k_is)
    (case z3 => k_is)
    (case z4 => k_is)
    (case z5 => k_is)
    (case z6 => k_is)
    (case z7 => k_is)
    (case z8 => k_is)
    (case z9 => k_is)
    (case z10 => k_is)
    (case z11 => k_is)
    (case z12 => k_is)
    (case z13 => k_is)
