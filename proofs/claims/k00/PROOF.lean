import PyProof.Rows.All
import Wide.All
import OpenK.AllK
import Wide.FinOn
import HandS.ForMost
import HandS.Dict
import HandS.ExcInit
import HandS.IsInst
import KE.KExcIs
import HandS.Wide
import PySem.Challenge.RW_lotkeepers_k00_errors_keep_their_value
import HandS.Conv
import HandS.Walk
import KE.KStateDown
import HandS.Head0
import HandS.Head1
import HandS.Head2
import HandS.HeadEnd
import HandS.HeadHook1
import HandS.HeadHook2
set_option Elab.async false
set_option linter.all false
set_option maxRecDepth 100000
set_option maxHeartbeats 4000000
/-! Part A: defs that are called while no repr is under way; reading nested data; repr of it. -/
namespace Lk
open PySem PySem.Spec PyProof.Rows L2

/-! ### a def's promise, where the guards around are known to be none -/
abbrev NoG (A : Around) : Prop := A.guards = some []
structure FnG (P : Program) (w : World) (K : PySem.W.Frag) (mg : Str → Option Value) (base : Heap)
    (lev : Nat) (fA : Addr) (fD : FuncData) (pars : List Str) (sp : Sp) : Prop where
  many : ∀ vs H Q, sp vs H Q E0 → vs.length = pars.length
  goes : ∀ (A : Around) (around : List Env) (s : Shared) (H : Hp) (args : Args) (us : List Value) (vs : List V) (Q : VK),
    Room lev A → NoG A → Env0 P w K mg base A around s H → BindsTo s fD args (pars.zip us) → Vals vs us → sp vs H Q E0 →
    codeAny (model P w) A (.call (.ref fA) args) (CR CX0 around P w H s Q E0) s

theorem FnG.of {P : Program} {w : World} {K : PySem.W.Frag} {mg : Str → Option Value} {base : Heap} {lev : Nat} {fA : Addr}
    {pars N : List Str} {sp : Sp} {nm ql : Str} {st : Stmt} {fD : FuncData}
    (F : Fun K nm ql st fA fD) (S : FnScope N pars (defScope st))
    (many : ∀ vs H Q, sp vs H Q E0 → vs.length = pars.length)
    (body : ∀ (cdv : Value) (A : Around) (around : List Env) (s : Shared) (H : Hp) (vs : List V) (Q : VK),
      Room lev (A.deeper (envOfC ql (defScope st) s.heap.objs.size fA cdv)) → NoG A → sp vs H Q E0 →
      ∃ t, PSs (cxOf CX0 P w K mg base N ql (defScope st) fA cdv A around s H E0).nox (defBody st) t ∧
        t { nx := fun _ H' => Q .non H', rt := Q } (start N vs) H) :
    FnG P w K mg base (lev + 1) fA fD pars sp := by
  obtain ⟨oc, od, kV, doc, pm, an, cdv, ct, osl, rfl, look, code⟩ := F.ex
  constructor
  · exact many
  intro A around s H args us vs Q room noG e0 binds rel want
  have same := many _ _ _ want
  have inK : K.In s.heap := e0.mod.kin.keeps fun b o e => (e0.bs b o e).1
  have free := e0.mod.nolimit.keeps fun b o e => (e0.bs b o e).1
  have kinds : ∀ y ∈ pars.zip us, (defScope st).names.lookup y.1 = some .local ∨
      ((defScope st).names.lookup y.1 = some .cell ∧ ((cellsFrom (s.heap.objs.size + 1) (defScope st).names []).lookup y.1).isSome = true) := by
    rintro ⟨n, v⟩ hy
    rcases S.par n (List.of_mem_zip hy).1 with q | q
    · exact Or.inl q
    · exact Or.inr ⟨q, PySem.W.cellsFrom_some _ _ _ (Or.inl q)⟩
  refine codeAny_call_function room.depth (inK _ _ look) rfl S.co S.gen rfl (PySem.W.codeRec_of inK code) (binds _ _ _ _ ?_)
  refine wpAny_newFunctionEnv_cells S.kind kinds ?_
  intro env he s1 x
  subst he
  refine ⟨free.keeps x.toInCall.keep, codeAny_func ?_⟩
  obtain ⟨t, ht, hq⟩ := body cdv A around s H vs Q (room.deeper _) noG want
  have I := inv_start (CX := CX0) (E := E0) S room.hd e0 same rel x
  have run := ht.nox.run [] s1 (start N vs) H _ I hq
  refine wpAny_mono run ?_ fun e s' hs => hs
  intro fl s' hs
  cases fl with
  | ret u =>
    obtain ⟨v, σ', H', J, rv, q⟩ := hs
    exact ⟨v, H', J.os, J.bare, J.base, J.hok, rv, q⟩
  | next =>
    obtain ⟨σ', H', J, q⟩ := hs
    exact ⟨V.non, H', J.os, J.bare, J.base, J.hok, rfl, q⟩
  | brk => obtain ⟨_, _, _, q⟩ := hs; exact False.elim q
  | cont => obtain ⟨_, _, _, q⟩ := hs; exact False.elim q

/-- a plain promise serves, too -/
theorem FnG.ofOk {P : Program} {w : World} {K : PySem.W.Frag} {mg : Str → Option Value} {base : Heap} {lev : Nat} {fA : Addr}
    {fD : FuncData} {pars : List Str} {sp : Sp} (F : FnOk P w K mg base CX0 lev fA fD pars sp) : FnG P w K mg base lev fA fD pars sp :=
  ⟨fun vs H Q h => F.len vs H Q E0 h, fun A around s H args us vs Q r _ e b v h => F.run A around s H args us vs Q E0 r e b v h⟩

section
variable {X : Cx} {lev : Nat} {fA : Addr} {fD : FuncData} {pars : List Str} {sp : Sp} {x : Str} {e : Expr} {es : List Expr} {t : TA} {p pos : Pos}
theorem pe_gcall (F : FnG X.prog X.w X.K X.mg X.base lev fA fD pars sp) (room : Room lev X.A) (noG : NoG X.A) (hg : Gl X x)
    (hm : X.mg x = some (.ref fA)) (hk : PySem.W.keepIn X.K (.ref fA) = true) (hb : Binds X.K fD pars []) (ha : PA X (e :: es) t)
    (hdb : (x == ("__debug__" : Str)) = false := by decide) (hst : starEach (e :: es) X.env = (false, eval e X.env) :: starEach es X.env := by rfl)
    (hpl : (backTo pos (starEach es X.env)).any (·.1) = false := by rfl) : PE X (.Call (.Name x p) (e :: es) [] pos) (tCall sp [] E0 t) := by
  constructor
  intro pins s σ H Q I want
  refine wpAny_Call_Name_kw (ld_glob I hg hm ?_ hdb)
  refine PySem.W.callWith_K (h₀ := X.base) I.ok.mod.kin hk (thn (ha.run pos pins s σ H _ I want) ?_) hst hpl
  rintro us s1 ⟨vs, H1, I1, rel, q⟩
  refine ⟨I1.kIn, ?_⟩
  have rel2 : Vals (vs ++ []) us := by rw [List.append_nil]; exact rel
  have same : us.length = pars.length := by rw [← rel2.length]; exact F.many _ _ _ q
  have binds : BindsTo s1 fD ⟨us, []⟩ (pars.zip us) := by
    have z := hb s1 us I1.kIn (by simpa using same)
    simpa using z
  refine wpAny_call (codeAny_mono (F.goes X.A X.stack s1 H1 ⟨us, []⟩ us _ Q room noG I1.env0 binds rel2 q) ?_)
  intro r s' hq
  cases r with
  | error er => exact hq.elim
  | ok fl =>
    cases fl with
    | ret u => exact I1.after hq
    | next => exact False.elim hq
    | brk => exact False.elim hq
    | cont => exact False.elim hq
end

/-! ### the end of a law: from its promise to the row -/
theorem gcall {P : Program} {w : World} {K : PySem.W.Frag} {mg mb : Str → Option Value} {lev : Nat} {fa a : Addr} {fD : FuncData} {x : Str} {sp : Sp}
    {s0 : Shared} {vs : List Value} {ns : List Int} (KX : K.In s0.heap) (hns : s0.heap.Ns mainGlobals mg) (hb : s0.heap.Ns builtinsNs mb)
    (hbb : ∀ x : Str, x ≠ "__name__" → mb x = bootBuiltins x) (hlim : s0.heap.NoLimit) (hg : s0.gens = #[])
    (ha : s0.heap.get? a = some { cls := .type "list", data := .seq vs.toArray }) (hi : IntsAre vs ns) (hl : ns.length ≤ sizeLine) (room : Room lev callerA)
    (F : ∀ base : Heap, K.In base → base.Ns mainGlobals mg → FnG P w K mg base lev fa fD [x] sp)
    (hbind : ∀ (s : Shared) (u : Value), BindsTo s fD ⟨[u], []⟩ [(x, u)])
    (hsp : ∀ H : Hp, Only H → SqL K H a (ns.map V.int) → sp [.ref a] H (fun v _ => v = .bl true) E0) :
    codeAny (model P w) callerA (.call (.ref fa) ⟨[.ref a], []⟩) (fun r s' => r = .ok (.ret (.bool true)) ∧ OldK s0.heap s'.heap ∧ s'.os = s0.os ∧ AllBare s'.gens) s0 := by
  have rv := vals_ints hi
  have lenV := hi.length
  have main : ∀ H : Hp, Only H → SqL K H a (ns.map V.int) → HOk P w H s0.heap → (∀ b, H b ≠ none → b = a) → (H a ≠ none → K.lookup a = none) →
      codeAny (model P w) callerA (.call (.ref fa) ⟨[.ref a], []⟩) (fun r s' => r = .ok (.ret (.bool true)) ∧ OldK s0.heap s'.heap ∧ s'.os = s0.os ∧ AllBare s'.gens) s0 := by
    intro H hO hS hok hA hK
    have look : ∀ {b : Addr} {o : Obj}, s0.heap.get? b = some o → H b = none → (hidT s0.heap H).get? b = some o := by
      intro b o e n
      exact hidT_get e n
    have noD : ∀ {b : Addr} {o : Obj} {es : Array DictEntry} {ep : Nat}, s0.heap.get? b = some o → o.data = .dict es ep → H b = none := by
      intro b o es ep e d
      cases q : H b with
      | none => rfl
      | some u =>
        have e' : b = a := hA b (by rw [q]; simp)
        subst e'
        rw [ha] at e
        cases e
        cases (show Data.seq vs.toArray _ = Data.dict es ep from d)
    have ns2 : ∀ {b : Addr} {m : Str → Option Value}, s0.heap.Ns b m → (hidT s0.heap H).Ns b m := by
      rintro b m ⟨o, es, ep, e, d, r⟩
      exact ⟨o, es, ep, look e (noD e d), d, r⟩
    have inB : K.In (hidT s0.heap H) := by
      intro b o e
      refine look (KX b o e) ?_
      cases q : H b with
      | none => rfl
      | some u =>
        have e' : b = a := hA b (by rw [q]; simp)
        subst e'
        rw [hK (by rw [q]; simp)] at e
        cases e
    have lim2 : (hidT s0.heap H).NoLimit := by
      obtain ⟨mc, h1, h2⟩ := hlim
      exact ⟨mc, ns2 h1, h2⟩
    have e0 : Env0 P w K mg (hidT s0.heap H) callerA [] s0 H :=
      ⟨rfl, ⟨inB, ns2 hns, ⟨mb, ns2 hb, hbb⟩, lim2⟩, fun b o e => of_hidT e, Nat.le_of_eq (hidT_size _ _), trivial,
        fun b hb => absurd (show b ∈ ([] : List Addr) from hb) (by simp), hok, .of_eq hg⟩
    refine codeAny_mono ((F _ inB (ns2 hns)).goes callerA [] s0 H ⟨[.ref a], []⟩ [.ref a] [.ref a] _ room rfl e0 (hbind s0 (.ref a)) (.cons rfl .nil) (hsp H hO hS)) ?_
    intro r s' h
    cases r with
    | error e => exact h.elim
    | ok fl =>
      cases fl with
      | next => exact False.elim h
      | brk => exact False.elim h
      | cont => exact False.elim h
      | ret u =>
        obtain ⟨v, H', os, bare, un, hok', r', q⟩ := h
        cases (show v = .bl true from q)
        cases (show u = Value.bool true from r')
        refine ⟨rfl, OldK.of_keep ?_, os, bare⟩
        intro b o e
        cases q : H b with
        | none => exact un.keep b o e q (fun z => absurd (show b ∈ ([] : List Addr) from z) (by simp)) (by simp)
        | some u =>
          rcases hO b with z | ⟨ob, xs, z⟩
          · rw [q] at z; cases z
          · obtain ⟨e1, _⟩ := hok b _ z
            obtain ⟨e2, _⟩ := hok' b _ (un.frzs b ob _ z)
            rw [e] at e1
            cases e1
            exact e2
  cases hk : K.lookup a with
  | some o =>
    have e := KX a o hk
    rw [ha] at e
    cases e
    exact main (fun _ => none) (fun _ => .inl rfl) (.inr ⟨_, vs.toArray, _, hk, rfl, rfl, rfl, by rw [List.size_toArray, lenV]; exact hl, by simpa using rv⟩)
      (fun b u z => nomatch (show (none : Option HO) = some u from z)) (fun b z => absurd rfl z) (fun z => absurd rfl z)
  | none =>
    refine main (fun b => if b = a then some (.frz { cls := .type "list", data := .seq vs.toArray } (.lst (ns.map V.int))) else none) ?_ (.inl (.inr ⟨_, if_pos rfl⟩)) ?_ ?_ (fun _ => hk)
    · intro b
      by_cases hb : b = a
      · exact .inr ⟨_, _, if_pos hb⟩
      · exact .inl (if_neg hb)
    · intro b u z
      by_cases hb : b = a
      · have z' := (if_pos hb).symm.trans z
        cases z'
        subst hb
        exact ⟨ha, by rw [List.length_map]; exact hl, vs, _, rv, ha⟩
      · cases (if_neg hb).symm.trans z
    · intro b z
      by_cases hb : b = a
      · exact hb
      · exact absurd (if_neg hb) z
end Lk

namespace Lk
open PySem PySem.Spec PyProof.Rows L2
/-- from the promise of `law` to the row -/
theorem walkG {l : PySem.W.OpenLaw} {n lev : Nat} {q : Program} {loose : List Str} {XP : (Str → Option Value) → Heap → Prop} {YP : World → Heap → Prop}
    {d : DefRec} {K : Params → PySem.W.Frag} {sp : PySem.W.Frag → Sp} {x : Str}
    (hn : l.most = some n) (hn2 : n ≤ sizeLine) (hdf : d.params.defaults = []) (room : Room lev callerA)
    (hY : ∀ (w : World) (h : Heap), YP w h → (K w.params).In h)
    (F : ∀ (w : World) (mg : Str → Option Value) (fa : Addr) (h : Heap), (K w.params).In h → h.Ns mainGlobals mg → mg d.name = some (.ref fa) →
      ∃ fD : FuncData, (∀ (s : Shared) (u : Value), BindsTo s fD ⟨[u], []⟩ [(x, u)]) ∧
        ∀ base : Heap, (K w.params).In base → base.Ns mainGlobals mg → FnG l.prog w (K w.params) mg base lev fa fD [x] (sp (K w.params)))
    (hsp : ∀ (K : PySem.W.Frag) (H : Hp) (a : Addr) (ns : List Int), ns.length ≤ n → Only H → SqL K H a (ns.map V.int) → sp K [.ref a] H (fun v _ => v = .bl true) E0) :
    PySem.W.WalkO q loose XP YP l.row.toRowW d [] (fun f vs => PySem.call f vs) := by
  refine Att.attach_call hn hdf ?_
  intro w s₀ s₁ mg mb fa o pm cd doc a vs ns G Y ho hd hcd hmg hobj hints hlen hg
  have KX := hY w _ Y
  obtain ⟨fD, hb, hF⟩ := F w mg fa _ KX G.T.g hmg
  exact gcall KX G.T.g G.T.b G.T.builtins G.T.nolimit hg hobj hints (Nat.le_trans hlen hn2) room hF hb fun H hO hS => hsp _ H a ns hlen hO hS
end Lk
set_option Elab.async false
set_option linter.all false
set_option maxRecDepth 100000
set_option maxHeartbeats 4000000
/-! Part B: values that are data through and through, and their repr. -/
namespace Lk
open PySem PySem.Spec PyProof.Rows L2

def keyD : Key → PyData
  | .inl i => .int i
  | .inr x => .str x

mutual
/-- v stands for the data d: lists, tuples and dicts that are tracked, ints, texts -/
inductive DW (H : Hp) : V → PyData → Prop
  | non : DW H .non .none
  | bl (b : Bool) : DW H (.bl b) (.bool b)
  | int (i : Int) : DW H (.int i) (.int i)
  | str (x : Str) : DW H (.str x) (.str x)
  | lst {a : Addr} {xs : List V} {ds : List PyData} : H a = some (.lst xs) → a ≠ sysModules → DWs H xs ds → DW H (.ref a) (.list ds)
  | tup {a : Addr} {xs : List V} {ds : List PyData} : H a = some (.tup xs) → DWs H xs ds → DW H (.ref a) (.tuple ds)
  | dic {a : Addr} {kvs : List (Key × V)} {ps : List (PyData × PyData)} : H a = some (.dK kvs) → DWk H kvs ps → DW H (.ref a) (.dict ps)
inductive DWs (H : Hp) : List V → List PyData → Prop
  | nil : DWs H [] []
  | cons {v : V} {vs : List V} {d : PyData} {ds : List PyData} : DW H v d → DWs H vs ds → DWs H (v :: vs) (d :: ds)
inductive DWk (H : Hp) : List (Key × V) → List (PyData × PyData) → Prop
  | nil : DWk H [] []
  | cons {k : Key} {v : V} {kvs : List (Key × V)} {d : PyData} {ps : List (PyData × PyData)} : DW H v d → DWk H kvs ps → DWk H ((k, v) :: kvs) ((keyD k, d) :: ps)
end

mutual
theorem DW.same {H H' : Hp} (k : Same H H') : ∀ {v : V} {d : PyData}, DW H v d → DW H' v d
  | _, _, .non => .non
  | _, _, .bl b => .bl b
  | _, _, .int i => .int i
  | _, _, .str x => .str x
  | _, _, .lst h n r => .lst (k _ _ h) n (DWs.same k r)
  | _, _, .tup h r => .tup (k _ _ h) (DWs.same k r)
  | _, _, .dic h r => .dic (k _ _ h) (DWk.same k r)
theorem DWs.same {H H' : Hp} (k : Same H H') : ∀ {vs : List V} {ds : List PyData}, DWs H vs ds → DWs H' vs ds
  | _, _, .nil => .nil
  | _, _, .cons h r => .cons (DW.same k h) (DWs.same k r)
theorem DWk.same {H H' : Hp} (k : Same H H') : ∀ {vs : List (Key × V)} {ds : List (PyData × PyData)}, DWk H vs ds → DWk H' vs ds
  | _, _, .nil => .nil
  | _, _, .cons h r => .cons (DW.same k h) (DWk.same k r)
end
theorem DWs.length {H : Hp} : ∀ {vs : List V} {ds : List PyData}, DWs H vs ds → vs.length = ds.length
  | _, _, .nil => rfl
  | _, _, .cons _ r => congrArg (· + 1) (DWs.length r)
theorem DWs.get {H : Hp} : ∀ {vs : List V} {ds : List PyData} {i : Nat} {d : PyData}, DWs H vs ds → ds[i]? = some d → ∃ v, vs[i]? = some v ∧ DW H v d
  | _, _, _, _, .nil, e => by simp at e
  | _, _, 0, _, .cons h _, e => by simp at e; subst e; exact ⟨_, rfl, h⟩
  | _, _, i + 1, _, .cons _ r, e => by
    obtain ⟨v, h1, h2⟩ := DWs.get (i := i) r (by simpa using e)
    exact ⟨v, by simpa using h1, h2⟩
theorem DWs.get' {H : Hp} : ∀ {vs : List V} {ds : List PyData} {i : Nat} {v : V}, DWs H vs ds → vs[i]? = some v → ∃ d, ds[i]? = some d ∧ DW H v d
  | _, _, _, _, .nil, e => by simp at e
  | _, _, 0, _, .cons h _, e => by simp at e; subst e; exact ⟨_, rfl, h⟩
  | _, _, i + 1, _, .cons _ r, e => by
    obtain ⟨v, h1, h2⟩ := DWs.get' (i := i) r (by simpa using e)
    exact ⟨v, by simpa using h1, h2⟩
theorem DWs.append {H : Hp} : ∀ {vs ws : List V} {ds es : List PyData}, DWs H vs ds → DWs H ws es → DWs H (vs ++ ws) (ds ++ es)
  | _, _, _, _, .nil, r => r
  | _, _, _, _, .cons h t, r => .cons h (DWs.append t r)

section
variable {X : Cx} {pins : List (Addr × Obj)} {σ : L2.St} {H : Hp} {s : Shared}
theorem reads_key {P : Program} {w : World} {k : Key} {v : Value} (h : (mixKind P w).is k v = true) : Reads s.heap v (keyD k) [] := by
  rcases keyIs_shape (k := k) (v := v) h with ⟨i, t, rfl, rfl⟩ | ⟨x, t, rfl, rfl⟩
  · exact .int i t
  · exact .str x t
theorem pairs_read {P : Program} {w : World} : ∀ {es : List DictEntry} {vs : List (Key × Value)}, Pairs (mixKind P w) es vs →
    ReadsAll s.heap (es.map (·.key)) (vs.map fun p => keyD p.1) []
  | _, _, .nil => .nil
  | _, _, .cons h _ r => ReadsAll.cons (as := []) (reads_key h) (pairs_read r)
mutual
theorem DW.reads (I : Inv X pins σ H s) : ∀ {v : V} {d : PyData} {u : Value}, DW H v d → RelV v u → ∃ as, Reads s.heap u d as ∧ sysModules ∉ as
  | _, _, _, .non, r => by cases r; exact ⟨_, .none, by simp⟩
  | _, _, _, .bl b, r => by cases r; exact ⟨_, .bool b, by simp⟩
  | _, _, _, .int i, r => by obtain ⟨t, rfl⟩ := r; exact ⟨_, .int i t, by simp⟩
  | _, _, _, .str x, r => by obtain ⟨t, rfl⟩ := r; exact ⟨_, .str x t, by simp⟩
  | _, _, _, .lst (a := a) h n rs, r => by
    cases r
    obtain ⟨_, its, m, rv, e⟩ := (show ObjOk X.prog X.w H s.heap a (.lst _) from I.hok a _ h)
    obtain ⟨as, q, z⟩ := DWs.reads I rs rv
    refine ⟨_, Reads.list e rfl rfl (by simpa using q), ?_⟩
    rw [List.mem_cons]
    rintro (e | e)
    · exact n e.symm
    · exact z e
  | _, _, _, .tup (a := a) h rs, r => by
    cases r
    obtain ⟨_, its, rv, o, e, hc, m, hd⟩ := (show ObjOk X.prog X.w H s.heap a (.tup _) from I.hok a _ h)
    obtain ⟨as, q, z⟩ := DWs.reads I rs rv
    exact ⟨_, Reads.tuple e hc hd (by simpa using q), z⟩
  | _, _, _, .dic (a := a) h rs, r => by
    cases r
    obtain ⟨_, n, vs, kv, o, es, ep, e, ex, hd, _, pr, _⟩ := (show ObjOk X.prog X.w H s.heap a (.dK _) from I.hok a _ h)
    have q := pairs_read (s := s) pr
    obtain ⟨bs, q2, q3, z⟩ := DWk.reads I rs kv pr
    refine ⟨_, Reads.dict (as := []) (bs := bs) e ex.1 hd ?_ q2, ?_⟩
    · rw [← q3]; exact q
    · have n' : a ≠ sysModules := by simpa using n
      show ¬ sysModules ∈ a :: bs
      rw [List.mem_cons]
      rintro (e | e)
      · exact n' e.symm
      · exact z e
theorem DWs.reads (I : Inv X pins σ H s) : ∀ {vs : List V} {ds : List PyData} {us : List Value}, DWs H vs ds → Vals vs us → ∃ as, ReadsAll s.heap us ds as ∧ sysModules ∉ as
  | _, _, _, .nil, r => by cases r; exact ⟨_, .nil, by simp⟩
  | _, _, _, .cons h rs, r => by
    cases r with
    | cons r1 r2 =>
      obtain ⟨as, q1, z1⟩ := DW.reads I h r1
      obtain ⟨bs, q2, z2⟩ := DWs.reads I rs r2
      exact ⟨_, .cons q1 q2, by rw [List.mem_append]; exact fun z => z.elim z1 z2⟩
theorem DWk.reads (I : Inv X pins σ H s) : ∀ {kvs : List (Key × V)} {ps : List (PyData × PyData)} {vs : List (Key × Value)} {es : List DictEntry}, DWk H kvs ps → KV kvs vs →
    Pairs (mixKind X.prog X.w) es vs → ∃ bs, ReadsAll s.heap (es.map (·.val)) (ps.map (·.2)) bs ∧ vs.map (fun p => keyD p.1) = ps.map (·.1) ∧ sysModules ∉ bs
  | _, _, _, _, .nil, r, p => by cases r; cases p; exact ⟨_, .nil, rfl, by simp⟩
  | _, _, _, _, .cons (k := k) h rs, r, p => by
    unfold KV at r
    cases r with
    | cons r1 r2 =>
      cases p with
      | cons p1 p2 p3 =>
        obtain ⟨as, q1, z1⟩ := DW.reads I h r1.2
        obtain ⟨bs, q2, q3, z2⟩ := DWk.reads I rs r2 p3
        rw [← p2] at q1
        refine ⟨_, .cons q1 q2, ?_, by rw [List.mem_append]; exact fun z => z.elim z1 z2⟩
        rw [List.map_cons, List.map_cons, ← r1.1, q3]
end
end

/-- repr of such data -/
theorem call_reprD {X : Cx} (noG : NoG X.A) (hu : X.A.units + 64 < cLine) : CallR X (.builtin "repr") (fun xs H Q => ∃ v d, xs = [v] ∧ DW H v d ∧
    d.showable = true ∧ d.depth ≤ 50 ∧ d.shown.length ≤ sizeLine ∧ Q (.str d.shown) H) := by
  intro pins s σ H xs us Q I r h
  obtain ⟨v, d, rfl, dw, hs, hd, hl, q⟩ := h
  obtain ⟨u, rfl, ru⟩ := r.one
  have fin : ∀ t (s' : Shared), Inv X pins σ H s' → EP X pins σ Q (.str d.shown t) s' := fun t s' J => ⟨.str d.shown, H, J, ⟨t, rfl⟩, q⟩
  have refs : ∀ a, u = .ref a → wpAny (model X.prog X.w) X.A (call (.builtin "repr") [u]) (EP X pins σ Q) X.xe s := by
    rintro a rfl
    obtain ⟨as, q1, z⟩ := DW.reads I dw ru
    exact repr_of_reads' q1 hs (fun _ => z) noG (by omega) (fun _ _ e => e) (fun h' t tk k => fin _ _ (I.kept (t' := tk) k)) hl
  cases dw with
  | non => cases (show u = Value.none from ru); exact PySem.P.repr_of_none (fin _ _ (I.tok _))
  | bl b => cases (show u = Value.bool b from ru); cases b <;> exact PySem.P.repr_of_bool (fin _ _ (I.tok _))
  | int i => obtain ⟨t, rfl⟩ := ru; exact PySem.P.repr_of_int (by simpa [PyData.showable] using hs) (fin _ _ (I.tok _))
  | str x => obtain ⟨t, rfl⟩ := ru; exact PySem.P.repr_of_str (fin _ _ (I.tok _)) hl
  | lst h n r => exact refs _ ru
  | tup h r => exact refs _ ru
  | dic h r => exact refs _ ru
end Lk
set_option Elab.async false
set_option linter.all false
set_option maxRecDepth 100000
set_option maxHeartbeats 4000000
/-! Part C: displays as data; the draws of a law. -/
namespace Lk
open PySem PySem.Spec PyProof.Rows L2
abbrev St := L2.St

/-- what is in H' and was not in H -/
def sub (H H' : Hp) : Hp := fun b => if (H b).isSome = true then none else H' b
theorem sub_of {H H' : Hp} {b : Addr} {o : HO} (h : H b = none) (h' : H' b = some o) : sub H H' b = some o := by
  unfold sub
  rw [h, if_neg (by simp)]
  exact h'
theorem of_sub {H H' : Hp} {b : Addr} {o : HO} (h : sub H H' b = some o) : H b = none ∧ H' b = some o := by
  unfold sub at h
  split at h
  · cases h
  · rename_i n
    refine ⟨?_, h⟩
    cases q : H b with
    | none => rfl
    | some u => rw [q] at n; exact absurd rfl n
theorem sub_same (H H' : Hp) : Same (sub H H') H' := fun _ _ e => (of_sub e).2
/-- a fresh value that stands for d; what was tracked stays -/
def tFr (d : PyData) : TE := fun _ H Q => ∀ v H', Same H H' → DW (sub H H') v d → Q v H'
def tFrs (ds : List PyData) : TA := fun _ H Q => ∀ vs H', Same H H' → DWs (sub H H') vs ds → Q vs H'
theorem same_new {H : Hp} {p : Addr} {o : HO} (h : H p = none) : Same H (upd H p o) := fun b u e => by
  rw [upd_ne (ne_of_none e h)]
  exact e
theorem sub_more {H H1 H2 : Hp} (s : Same H1 H2) : Same (sub H H1) (sub H H2) := fun _ _ e => sub_of (of_sub e).1 (s _ _ (of_sub e).2)
theorem sub_less {H H1 H2 : Hp} (s : Same H H1) : Same (sub H1 H2) (sub H H2) := fun _ _ e => sub_of (s.free (of_sub e).1) (of_sub e).2
theorem sub_new {H H1 : Hp} {p : Addr} {o : HO} (s : Same H H1) (h : H1 p = none) : sub H (upd H1 p o) p = some o := sub_of (s.free h) upd_same

section
variable {X : Cx} {e : Expr} {es : List Expr} {t t' : TE} {d : PyData} {ds : List PyData} {pos : Pos} {j : Nat}
theorem pe_imp (h : PE X e t) (k : ∀ σ H Q, t' σ H Q → t σ H Q) : PE X e t' := ⟨fun pins s σ H Q I q => h.run pins s σ H Q I (k σ H Q q)⟩
theorem pa_imp {t t' : TA} (h : PA X es t) (k : ∀ σ H Q, t' σ H Q → t σ H Q) : PA X es t' := ⟨fun pos pins s σ H Q I q => h.run pos pins s σ H Q I (k σ H Q q)⟩
theorem pd_int {i : Int} : PE X (.Constant (.int i) j pos) (tFr (.int i)) := pe_imp pe_int fun _ H _ q => q _ _ (Same.refl H) (.int i)
theorem pd_bl {b : Bool} : PE X (.Constant (.bool b) j pos) (tFr (.bool b)) := pe_imp pe_bl fun _ H _ q => q _ _ (Same.refl H) (.bl b)
theorem pd_non : PE X (.Constant .none j pos) (tFr .none) := pe_imp pe_non fun _ H _ q => q _ _ (Same.refl H) .non
theorem pd_str {x : Str} : PE X (.Constant (.str x) j pos) (tFr (.str x)) := pe_imp pe_str fun _ H _ q => q _ _ (Same.refl H) (.str x)
theorem pd_neg {i : Int} {p1 : Pos} : PE X (.UnaryOp .USub (.Constant (.int i) j p1) pos) (tFr (.int (-i))) :=
  pe_imp (pe_un un_neg pe_int) fun _ H _ q => ⟨i, rfl, q _ _ (Same.refl H) (.int _)⟩
theorem pds_nil : PA X [] (tFrs []) := pa_imp pa_nil fun _ H _ q => q _ _ (Same.refl H) .nil
theorem pds_cons (ha : PE X e (tFr d)) (hr : PA X es (tFrs ds)) (hs : starEach (e :: es) X.env = (false, eval e X.env) :: starEach es X.env := by rfl) : PA X (e :: es) (tFrs (d :: ds)) :=
  pa_imp (pa_cons ha hr hs) fun _ H _ q => fun v H1 s1 d1 vs H2 s2 d2 => q _ _ (s1.trans s2) (.cons (d1.same (sub_more s2)) (d2.same (sub_less s1)))
theorem few_ok {n : Nat} (h : decide (n ≤ 1000) = true) : n ≤ sizeLine := by
  rw [sizeLine_eq]
  have := of_decide_eq_true h
  omega
theorem pd_tup {c : Nat} (h : PA X es (tFrs ds)) (hl : decide (ds.length ≤ 1000) = true := by rfl) : PE X (.Tuple es c pos) (tFr (.tuple ds)) :=
  pe_imp (pe_tup h) fun _ H _ q => fun vs H1 s1 d1 => ⟨by rw [d1.length]; exact few_ok hl, fun p hp => q _ _ (s1.trans (same_new hp)) (.tup (sub_new s1 hp) (d1.same (sub_more (same_new hp))))⟩
/-- a list that is displayed, its address told not to be that of sys.modules -/
def tLstN (t : TA) : TE := fun σ H Q => t σ H fun xs H1 => xs.length ≤ sizeLine ∧ ∀ p, H1 p = none → p ≠ sysModules → Q (.ref p) (upd H1 p (.lst xs))
theorem pe_lstN {t : TA} (h : PA X es t) : PE X (.List es pos) (tLstN t) := by
  constructor
  intro pins s σ H Q I hq
  refine wpAny_List_spliced (thn (h.run pos pins s σ H _ I hq) ?_)
  rintro us s1 ⟨xs, H1, I1, r, z, q⟩
  refine ⟨by rw [← r.length]; exact z, ?_⟩
  have free : H1 s1.heap.objs.size = none := I1.hok.fresh (Nat.le_refl _)
  have J := I1.laid (t' := s1.toks) (a := s1.heap.objs.size) (o := .lst xs) (h' := s1.heap.push { cls := .type "list", data := .seq us.toArray })
    (fun b u e => Heap.get?_push_of_some _ e) (Nat.le_refl _) ⟨z, us, 0, r, Heap.get?_push_size _ rfl⟩
  exact ⟨.ref s1.heap.objs.size, _, J, rfl, q _ free (Nat.ne_of_gt I1.big)⟩
theorem pd_lst (h : PA X es (tFrs ds)) (hl : decide (ds.length ≤ 1000) = true := by rfl) : PE X (.List es pos) (tFr (.list ds)) :=
  pe_imp (pe_lstN h) fun _ H _ q => fun vs H1 s1 d1 => ⟨by rw [d1.length]; exact few_ok hl, fun p hp n => q _ _ (s1.trans (same_new hp)) (.lst (sub_new s1 hp) n (d1.same (sub_more (same_new hp))))⟩
theorem pd_dict0 : PE X (.Dict [] [] pos) (tFr (.dict [])) :=
  pe_imp pe_dnewK fun _ H _ q => fun p hp => q _ _ (same_new hp) (.dic (sub_new (Same.refl H) hp) .nil)
theorem pd_dict1 {k : Str} {p1 : Pos} (h : PE X e (tFr d)) : PE X (.Dict [some (.Constant (.str k) j p1)] [e] pos) (tFr (.dict [(.str k, d)])) :=
  pe_imp (pe_disp (pps_cons pe_str h pps_nil) rfl rfl (by simp) (by simp)) fun _ H _ q => fun p hp v H1 s1 d1 => by
    have e1 := s1 _ _ (upd_same (H := H) (a := p) (o := .dK []))
    refine ⟨e1, [(.inr k, v)], rfl, by simp, ?_⟩
    have same : Same H (upd H1 p (.dK (mergeK [] [(.inr k, v)]))) := fun b u e => by
      have nb := ne_of_none e hp
      rw [upd_ne nb]
      exact s1 b u (by rw [upd_ne nb]; exact e)
    refine q _ _ same (.dic (kvs := [(.inr k, v)]) (sub_of hp upd_same) (.cons (d1.same ?_) .nil))
    intro b u e
    obtain ⟨n1, n2⟩ := of_sub e
    have nb : b ≠ p := fun z => by rw [z, upd_same] at n1; cases n1
    exact sub_of (by rw [upd_ne nb] at n1; exact n1) (by rw [upd_ne nb]; exact n2)
end

/-! ### the draws -/
/-- H' has what H has, but for a; a may be written -/
def ExtP (a : Addr) (H H' : Hp) : Prop := ∀ b o, b ≠ a → H b = some o → H' b = some o
theorem ExtP.refl (a : Addr) (H : Hp) : ExtP a H H := fun _ _ _ e => e
theorem ExtP.trans {a : Addr} {H H1 H2 : Hp} (x : ExtP a H H1) (y : ExtP a H1 H2) : ExtP a H H2 := fun b o n e => y b o n (x b o n e)
theorem ExtP.of {a : Addr} {H H' : Hp} (s : Same H H') : ExtP a H H' := fun b o _ e => s b o e
theorem ExtP.upd (a : Addr) (H : Hp) (o : HO) : ExtP a H (upd H a o) := fun b u n e => by rw [upd_ne n]; exact e
/-- the draws' list: what is left of the cell, the mixed number, how often it was asked -/
def PotAt (a : Addr) (N : Nat) (H : Hp) : Prop := ∃ o b c : Int, H a = some (.lst [.int o, .int b, .int c]) ∧ 0 ≤ o ∧ 0 ≤ b ∧ b < 2305843009213693951 ∧ 0 ≤ c ∧ c ≤ N
theorem PotAt.mono {a : Addr} {N M : Nat} {H : Hp} (h : PotAt a N H) (k : N ≤ M) : PotAt a M H := by
  obtain ⟨o, b, c, e, h0, h1, h2, h3, h4⟩ := h
  exact ⟨o, b, c, e, h0, h1, h2, h3, by omega⟩
theorem PotAt.same {a : Addr} {N : Nat} {H H' : Hp} (h : PotAt a N H) (k : Same H H') : PotAt a N H' := by
  obtain ⟨o, b, c, e, r⟩ := h
  exact ⟨o, b, c, k _ _ e, r⟩
/-- ** to a written power, of great numbers -/
def CPowW (i j : Int) : Prop := 0 ≤ j ∧ j ≤ 1000 ∧ i.natAbs < 2 ^ 4096
theorem op_powW {X : Cx} : OpR X (binaryOp .Pow) (rI CPowW fun i j => .int (i ^ j.toNat)) := opI fun i j _ _ _ _ _ hc q => by
  obtain ⟨h1, h2, h3⟩ := hc
  refine pow_int h1 ?_ q
  have e : Builtin.Int.intBits i ≤ 4096 := by
    unfold Builtin.Int.intBits
    split
    · omega
    · have := PySem.Flt.log2_lt_of (show 0 < 4096 by decide) h3
      omega
  have : (Builtin.Int.intBits i : Int) * j ≤ 4096 * 1000 := Int.mul_le_mul (by omega) h2 h1 (by decide)
  omega
theorem pow_lt {i : Int} {n k : Nat} (h : i.natAbs < n) (hn : 0 < k) : (i ^ k).natAbs < n ^ k := by
  rw [Int.natAbs_pow]
  exact Nat.pow_lt_pow_left h (by omega)
theorem sub_ext {a : Addr} {H H1 H2 : Hp} (ha : H a ≠ none) (x : ExtP a H1 H2) : Same (sub H H1) (sub H H2) := fun b o e => by
  obtain ⟨e0, e1⟩ := of_sub e
  exact sub_of e0 (x b o (fun z => ha (z ▸ e0)) e1)
theorem sub_lessP {a : Addr} {H H1 H2 : Hp} (h1 : H1 a ≠ none) (x : ExtP a H H1) : Same (sub H1 H2) (sub H H2) := fun b o e => by
  obtain ⟨e0, e1⟩ := of_sub e
  refine sub_of ?_ e1
  cases q : H b with
  | none => rfl
  | some u =>
    have nb : b ≠ a := fun z => h1 (z ▸ e0)
    rw [x b u nb q] at e0
    cases e0
theorem PotAt.ne {a : Addr} {N : Nat} {H : Hp} (h : PotAt a N H) : H a ≠ none := by
  obtain ⟨_, _, _, e, _⟩ := h
  rw [e]
  exact fun z => by cases z
end Lk
set_option Elab.async false
set_option linter.all false
set_option maxRecDepth 100000
set_option maxHeartbeats 4000000
/-! Part X: exceptions of the text as values: made, asked for their class, read. -/
namespace Lk
open PySem PySem.Spec PyProof.Rows L2
/-- an own exception with the one field `value`: its object at a, of the class at C, its dict at d -/
def ErrAt (H : Hp) (C a d : Addr) (v : V) : Prop := H a = some (exo a C (some d)) ∧ H d = some (exd d [("value", v)])
theorem ErrAt.same {H H' : Hp} {C a d : Addr} {v : V} (h : ErrAt H C a d v) (k : Same H H') : ErrAt H' C a d v := ⟨k _ _ h.1, k _ _ h.2⟩
/-- what is asked of such a class: all of it is read off the written part -/
structure ErC (K : PySem.W.Frag) (C fI : Addr) : Prop where
  oex : OexC K C
  init : PySem.W.findIn K (.ref C) "__init__" = some (some (.ref fI))
  noV : PySem.W.findIn K (.ref C) "value" = some none
  ga : PySem.W.findIn K (.ref C) "__getattribute__" = some (some (.builtin "BaseException.__getattribute__"))
  gg : PySem.W.findIn K (.ref C) "__getattr__" = some none
  hd : PySem.W.hasDictIn K C = true
  cl : PySem.W.findIn K (.ref C) "__class__" = some (some (.builtin "object.__class__"))
  ob : PySem.W.mroIn K C (.type "object") = some true
/-- .. of the written part as a whole -/
structure ErK (K : PySem.W.Frag) (fI : Addr) : Prop where
  fn : PySem.W.typeIn K (.ref fI) = some (.type "function")
  cg : PySem.W.specialIn K (.builtin "object.__class__") "__get__" = some (some (.builtin "getset_descriptor.__get__"))
  ct : PySem.W.takesIn K (.builtin "object.__class__") = some true
/-- the promise of that __init__ -/
def spInitV (K : PySem.W.Frag) (fI : Addr) : Sp := fun vs H Q _ => ∃ (a C : Addr) (v : V), vs = [.ref a, v] ∧ ErC K C fI ∧ H a = some (exo a C none) ∧
  ∀ d, H d = none → d ≠ a → Q .non (upd (upd H d (exd d [("value", v)])) a (exo a C (some d)))
section
variable {X : Cx} {lev : Nat} {C fI : Addr} {fD : FuncData} {x : Str} {e : Expr} {t : TE} {p pos : Pos}
/-- C(e) as a value -/
def tErr (C : Addr) (t : TA) : TE := fun σ H Q => t σ H fun vs H1 => ∃ v, vs = [v] ∧ ∀ a d H2, H1 a = none → H1 d = none → Same H1 H2 → ErrAt H2 C a d v → Q (.ref a) H2
theorem pe_err {t : TA} (T : ErC X.K C fI) (TK : ErK X.K fI) (G : FnOk X.prog X.w X.K X.mg X.base CX0 lev fI fD ["self", "value"] (spInitV X.K fI)) (room : Room (lev + 1) X.A) (hb : Binds X.K fD ["self", "value"] [])
    (hg : Gl X x) (hm : X.mg x = some (.ref C)) (ha : PA X [e] t) (hdb : (x == ("__debug__" : Str)) = false := by decide)
    (hst : starEach [e] X.env = (false, eval e X.env) :: starEach [] X.env := by rfl) (hpl : (backTo pos (starEach [] X.env)).any (·.1) = false := by rfl) :
    PE X (.Call (.Name x p) [e] [] pos) (tErr C t) := by
  constructor
  intro pins s σ H Q I want
  obtain ⟨nm, qq, NN, bs, bm, sn, su, ab, col, dd, k0, k1, k2, k3, k5, hC, hbm⟩ := T.oex.cls
  refine wpAny_Call_Name_kw (ld_glob I hg hm ?_ hdb)
  refine PySem.W.callWith_K (h₀ := X.base) I.ok.mod.kin T.oex.kC (thn (ha.run pos pins s σ H _ I want) ?_) hst hpl
  rintro us s1 ⟨vs, H1, I1, rel, v, rfl, q1⟩
  refine ⟨I1.kIn, ?_⟩
  obtain ⟨hp, g, dr, tk, os⟩ := s1
  show wpAny _ _ (call (.ref C) us) _ _ _
  have up : hp.objs.size ≤ hp.objs.size + 1 := Nat.le_succ _
  have free : H1 (hp.objs.size + 1) = none := I1.hok.fresh up
  generalize hA : hp.objs.size + 1 = a at free up
  have keep : ∀ b o, hp.get? b = some o → ((hp.push (PySem.W.kdv_tup us)).push (PySem.HandSPX.excO C hp.objs.size)).get? b = some o :=
    fun b o z => Heap.get?_push_of_some _ (Heap.get?_push_of_some _ z)
  have here : ((hp.push (PySem.W.kdv_tup us)).push (PySem.HandSPX.excO C hp.objs.size)).get? a = some (PySem.HandSPX.excO C hp.objs.size) := by
    rw [← hA]
    heap_get
  have I2 : Inv X pins σ (upd H1 a (exo a C none)) ⟨(hp.push (PySem.W.kdv_tup us)).push (PySem.HandSPX.excO C hp.objs.size), g, dr, tk, os⟩ :=
    I1.laid (t' := tk) (a := a) (o := exo a C none) keep up (exo_ok here)
  have rel2 : Vals [V.ref a, v] (Value.ref a :: us) := .cons rfl rel
  have many : us.length = 1 := (Paired.length rel).symm
  have few : us.length ≤ sizeLine := by rw [many, sizeLine_eq]; decide
  have sp : spInitV X.K fI [V.ref a, v] (upd H1 a (exo a C none)) (fun r H2 => r = .non ∧ Q (.ref a) H2) E0 := by
    refine ⟨a, C, v, rfl, T, upd_same, fun d hd nd => ⟨rfl, q1 a d _ free ?_ ?_ ⟨upd_same, ?_⟩⟩⟩
    · rw [upd_ne nd] at hd; exact hd
    · intro b o z
      have nb := ne_of_none z free
      have nd2 : b ≠ d := fun y => by rw [← y, upd_ne nb, z] at hd; cases hd
      rw [upd_ne nb, upd_ne nd2, upd_ne nb]
      exact z
    · rw [upd_ne nd, upd_same]
  have binds := hb ⟨(hp.push (PySem.W.kdv_tup us)).push (PySem.HandSPX.excO C hp.objs.size), g, dr, tk, os⟩ (Value.ref a :: us) I2.kIn (by simp [many])
  rw [List.append_nil] at binds
  subst hA
  refine wpAny_call (PySem.HandSPX.call_own F.excBase_ValueError (fun Y => PySem.HandSPX.refsVE_contains Y bm hbm) (I1.kIn _ _ hC) (PySem.W.looks_findIn I1.kIn T.init)
    (fun self => PySem.W.bind_fn I1.kIn self TK.fn) few ?_)
  refine codeAny_mono (G.run _ X.stack _ _ ⟨Value.ref (hp.objs.size + 1) :: us, []⟩ (Value.ref (hp.objs.size + 1) :: us) _ _ E0 (room.make C us []) (I2.env0.make C us []) binds rel2 sp) ?_
  intro r s' hq
  cases r with
  | error er => exact hq.elim
  | ok fl =>
    cases fl with
    | ret u =>
      obtain ⟨w', H2, J, rv, e0, q2⟩ := I2.after hq
      subst e0
      exact ⟨rv, .ref (hp.objs.size + 1), H2, J, rfl, q2⟩
    | next => exact False.elim hq
    | brk => exact False.elim hq
    | cont => exact False.elim hq
/-- e.value -/
def tErrV (t : TE) : TE := fun σ H Q => t σ H fun x H1 => ∃ a C d v fI, x = .ref a ∧ ErC X.K C fI ∧ ErrAt H1 C a d v ∧ Q v H1
theorem pe_errV {e : Expr} {t : TE} (he : PE X e t) (hb : attributeBase e "value" X.env (eval e X.env) = eval e X.env := by rfl) : PE X (.Attribute e "value" pos) (tErrV (X := X) t) := by
  constructor
  intro pins s σ H Q I want
  refine attr_of hb (thn (he.run pins s σ H _ I want) ?_)
  rintro u s1 ⟨x, H1, I1, rx, a, C, d, v, fI, rfl, T, ⟨ea, ed⟩, q⟩
  cases (show u = Value.ref a from rx)
  obtain ⟨t1, ho⟩ := exo_at I1.hok ea
  obtain ⟨mA, hns, rel⟩ := exd_at I1.hok ed
  obtain ⟨od, hod, hl⟩ := lookIn_ns hns
  obtain ⟨u, hu, ru⟩ := RelO.some_of (v := v) (o := mA "value") (by
    have := rel "value"
    rw [lookup_put, if_pos rfl] at this
    exact this)
  have J : PySem.W.InstAt s1.heap a { cls := .ref C, dict := some d, data := .fields #[.ref t1, .none, .none, .none, .bool false, .none] } C (some od) := ⟨ho, rfl, rfl, hod⟩
  exact HandSPX.exc_get I1.kIn J T.ga T.gg T.oex.exC (PySem.W.findObj_own T.hd T.noV rfl (by rw [hl, hu])) (handed_of ru) ⟨v, H1, I1.tok _, ru, q⟩
/-- isinstance(e, D) of such an exception -/
def rErrIs (K : PySem.W.Frag) : List V → Hp → VK → Prop := fun xs H Q => ∃ (a C d fI : Addr) (v c : V) (u : Value) (b : Bool), xs = [.ref a, c] ∧ ErC K C fI ∧ ErK K fI ∧ ErrAt H C a d v ∧ ClsV c u ∧ PySem.W.kitOne K (.ref C) u = some b ∧ Q (.bl b) H
theorem call_errIs : CallR X (.builtin "isinstance") (rErrIs X.K) := by
  intro pins s σ H xs us Q I r h
  obtain ⟨a, C, d, fI, v, c, u, b, rfl, T, TK, ⟨ea, ed⟩, hc, hk, q⟩ := h
  obtain ⟨u1, u2, rfl, r1, r2⟩ := vals2 r
  have e2 := hc.eq r2
  subst e2
  cases (show u1 = Value.ref a from r1)
  obtain ⟨t1, ho⟩ := exo_at I.hok ea
  obtain ⟨mA, hns, rel⟩ := exd_at I.hok ed
  obtain ⟨od, hod, _⟩ := lookIn_ns hns
  have J : PySem.W.InstAt s.heap a { cls := .ref C, dict := some d, data := .fields #[.ref t1, .none, .none, .none, .bool false, .none] } C (some od) := ⟨ho, rfl, rfl, hod⟩
  have hcl : (PySem.W.clsIn X.K C).isSome = true := by
    have := T.hd
    unfold PySem.W.hasDictIn at this
    cases z : PySem.W.clsIn X.K C with
    | none => rw [z] at this; simp at this
    | some _ => rfl
  exact PySem.W.kia_one (PySem.W.kitx_exc hcl T.ga T.gg T.oex.exC T.cl TK.cg TK.ct T.ob) I.kIn J hk (fun z => nomatch z) fun tk => ⟨.bl b, H, I.tok tk, rfl, q⟩
end

/-! ### what the written part says of the classes -/
abbrev veMro : List Value := [.type "ValueError", .type "Exception", .type "BaseException", .type "object"]
/-- one class of the text, below the class at L (whose __init__ stands at fI), bound to the name x -/
structure ErRow (K : PySem.W.Frag) (mg : Str → Option Value) (fI : Addr) (ms : List Value) (x : Str) (C : Addr) : Prop where
  at_ : mg x = some (.ref C)
  er : ErC K C fI
  some_ : (PySem.W.clsIn K C).isSome = true
  mro : ∀ b : Value, PySem.W.subIn K (.ref C) b = some ((.ref C :: ms).contains b)
theorem erRow_mk {K : PySem.W.Frag} {h : Heap} {mg : Str → Option Value} (X : K.In h) (G : h.Ns mainGlobals mg) {fI C : Addr} {x : Str} {ms : List Value}
    {nm q : Str} {N : Addr} {bs : List Value} {sn : List Str} {su : List Value} {ab : Bool} {col : Option Bool} {dd : Option Addr} {m0 m1 m2 m3 m5 : Option Value}
    (aC : PySem.W.nsIn K mainGlobals x = some (some (.ref C)))
    (xL : K.lookup C = some (excClassObj nm q C N bs ms true sn su ab col dd m0 m1 m2 m3 m5 "ValueError.__new__"))
    (hms : PySem.HandSPX.refsVE ms = true)
    (sa : PySem.W.findIn K (.ref C) "__setattr__" = some (some (.builtin "object.__setattr__")))
    (ga : PySem.W.findIn K (.ref C) "__getattribute__" = some (some (.builtin "BaseException.__getattribute__")))
    (gg : PySem.W.findIn K (.ref C) "__getattr__" = some none)
    (nv : PySem.W.findIn K (.ref C) "value" = some none)
    (ini : PySem.W.findIn K (.ref C) "__init__" = some (some (.ref fI)))
    (cl : PySem.W.findIn K (.ref C) "__class__" = some (some (.builtin "object.__class__")))
    (kC : PySem.W.keepIn K (.ref C) = true) : ErRow K mg fI ms x C := by
  have hcl : PySem.W.clsIn K C = some { name := nm, bases := bs, mro := .ref C :: ms, ns := N, qualname := q, hasDict := true, slotNames := sn, subclasses := su, abstract := ab, collection := col, hasDel := false } := by
    unfold PySem.W.clsIn
    rw [xL] <;> rfl
  have hmro : ∀ b : Value, PySem.W.mroIn K C b = some ((.ref C :: ms).contains b) := by
    intro b
    unfold PySem.W.mroIn
    rw [hcl] <;> rfl
  have hty : PySem.W.typeIn K (.ref C) = some (.type "type") := by
    show (K.lookup C).map (·.cls) = _
    rw [xL] <;> rfl
  have has : ∀ Y : String, veMro.contains (.type Y) = true → ((.ref C :: ms).contains (.type Y)) = true := by
    intro Y hY
    have := PySem.HandSPX.refsVE_contains Y (.ref C :: ms) (show PySem.HandSPX.refsVE (.ref C :: ms) = true from hms)
    rw [this]
    exact hY
  refine ⟨PySem.W.mg_of X G aC, ⟨⟨⟨nm, q, N, bs, ms, sn, su, ab, col, dd, m0, m1, m2, m3, m5, xL, hms⟩, sa, ?_, hty, kC⟩, ini, nv, ga, gg, ?_, cl, ?_⟩, ?_, hmro⟩
  · show PySem.W.mroIn K C _ = _
    rw [hmro, has "BaseException" (by decide +kernel)]
  · unfold PySem.W.hasDictIn
    rw [hcl] <;> rfl
  · rw [hmro, has "object" (by decide +kernel)]
  · rw [hcl] <;> rfl
/-- isinstance, as the classes' chains tell it -/
theorem ErRow.kit {K : PySem.W.Frag} {mg : Str → Option Value} {fI C D : Addr} {ms ms' : List Value} {x y : Str} (r : ErRow K mg fI ms x C) (r' : ErRow K mg fI ms' y D) :
    PySem.W.kitOne K (.ref C) (.ref D) = some ((.ref C :: ms).contains (.ref D)) := by
  unfold PySem.W.kitOne
  by_cases e : C = D
  · subst e
    rw [if_pos (by simp)]
    simp
  · have n : ((Value.ref C == Value.ref D) = true) ↔ False := by simp [e]
    rw [if_neg (by rw [n]; exact id)]
    show (if ((PySem.W.clsIn K D).isSome && PySem.W.typeIn K (.ref D) == some (.type "type")) = true then PySem.W.subIn K (.ref C) (.ref D) else none) = _
    rw [if_pos (by rw [r'.some_, r'.er.oex.tyC]; rfl)]
    exact r.mro _
theorem ErRow.kitT {K : PySem.W.Frag} {mg : Str → Option Value} {fI C : Addr} {ms : List Value} {x : Str} (r : ErRow K mg fI ms x C) (T : String) (hT : PySem.W.kitMeta T = true) :
    PySem.W.kitOne K (.ref C) (.type T) = some ((.ref C :: ms).contains (.type T)) := by
  unfold PySem.W.kitOne
  rw [if_neg (by simp)]
  show (if PySem.W.kitMeta T = true then PySem.W.subIn K (.ref C) (.type T) else none) = _
  rw [if_pos hT]
  exact r.mro _
/-- a row each for several classes -/
inductive ErRows (K : PySem.W.Frag) (mg : Str → Option Value) (fI : Addr) (ms : List Value) : List Str → List Addr → Prop
  | nil : ErRows K mg fI ms [] []
  | cons {x : Str} {C : Addr} {xs : List Str} {Cs : List Addr} : ErRow K mg fI ms x C → ErRows K mg fI ms xs Cs → ErRows K mg fI ms (x :: xs) (C :: Cs)
theorem ErRows.get {K : PySem.W.Frag} {mg : Str → Option Value} {fI : Addr} {ms : List Value} : ∀ {xs : List Str} {Cs : List Addr} (i : Nat) {x : Str}, ErRows K mg fI ms xs Cs → xs[i]? = some x → ErRow K mg fI ms x (Cs.getD i 0)
  | _, _, _, _, .nil, e => by simp at e
  | _, _, 0, _, .cons r _, e => by simp at e; subst e; exact r
  | _, _, i + 1, _, .cons _ rs, e => by
    have := ErRows.get i rs (by simpa using e)
    simpa using this
theorem ErRows.length {K : PySem.W.Frag} {mg : Str → Option Value} {fI : Addr} {ms : List Value} : ∀ {xs : List Str} {Cs : List Addr}, ErRows K mg fI ms xs Cs → xs.length = Cs.length
  | _, _, .nil => rfl
  | _, _, .cons _ r => congrArg (· + 1) r.length
theorem ErRows.mem {K : PySem.W.Frag} {mg : Str → Option Value} {fI : Addr} {ms : List Value} {C : Addr} : ∀ {xs : List Str} {Cs : List Addr}, ErRows K mg fI ms xs Cs → C ∈ Cs → ∃ x, ErRow K mg fI ms x C
  | _, _, .nil, h => by simp at h
  | _, _, .cons r rs, h => by
    rcases List.mem_cons.mp h with rfl | h
    · exact ⟨_, r⟩
    · exact rs.mem h
end Lk
set_option Elab.async false
set_option linter.all false
set_option maxRecDepth 100000
set_option maxHeartbeats 4000000
namespace Kz
open PySem PySem.Spec PyProof.Rows L2 Lk
def top (i : Nat) : Stmt := PySem.Challenge.pw_lotkeepers_k00_errors_keep_their_value.main.body.getD i (.Pass ⟨0, 0, 0, 0⟩)
abbrev sPot : Stmt := top 62
abbrev sTake : Stmt := top 63
abbrev sOf : Stmt := top 64
abbrev sCells : Stmt := top 65
abbrev sOdd : Stmt := top 66
/-- built-in names that the text leaves alone -/
structure Bl (mg : Str → Option Value) : Prop where
  int : mg "int" = none
  abs : mg "abs" = none
  len : mg "len" = none
  list : mg "list" = none
  range : mg "range" = none
  max : mg "max" = none
  min : mg "min" = none
  all : mg "all" = none
  any : mg "any" = none
  repr : mg "repr" = none
  isin : mg "isinstance" = none
  enum : mg "enumerate" = none
  vErr : mg "ValueError" = none
section
variable {P : Program} {w : World} {K : PySem.W.Frag} {mg : Str → Option Value} {base : Heap} {f : Addr} {fd : FuncData}
def spTake : Sp := fun vs H Q _ => ∃ (a : Addr) (n : Int) (N : Nat), vs = [.ref a, .int n] ∧ PotAt a N H ∧ N ≤ 1000000 ∧ 0 < n ∧ n ≤ 1000 ∧
  ∀ (i : Int) (H' : Hp), 0 ≤ i → i < n → ExtP a H H' → PotAt a (N + 1) H' → Q (.int i) H'
theorem scTake : FnScope ["pot", "upto", "digit", "prime", "mixed"] ["pot", "upto"] (defScope sTake) := ⟨rfl, rfl, rfl, by decide +kernel, rfl, by decide +kernel, by decide +kernel⟩
theorem ok_take (F : Fun K "_law_take" "_law_take" sTake f fd) (T : Bl mg) : FnOk P w K mg base CX0 1 f fd ["pot", "upto"] spTake := by
  refine F.ok scTake (fun vs H Q E h => ?_) (fun cdv A outer s H vs Q E hr h => ?_)
  · obtain ⟨a, n, N, rfl, _⟩ := h
    rfl
  · obtain ⟨a, n, N, rfl, ⟨o, b, c, hp, ho, hb, hb2, hc, hcN⟩, hN, hn, hn2, k⟩ := h
    have nd := scTake.nd
    refine ⟨_, pss_cons (ps_if (pt_cmpR op_gt (pe_ix ix_list (pv 0) pe_int (fun _ _ => rfl)) pe_int (nomark _))
        (pss_cons (ps_set (i := 2) nd rfl (.inl rfl) (pe_op op_mod (pe_callTy call_int1 rfl T.int boot_int (pa_cons (pe_ix ix_list (pv 0) pe_int (fun _ _ => rfl)) pa_nil)) (pv 1)))
          (pss_cons (ps_asg (pe_op op_fdiv (pe_ix ix_list (pv 0) pe_int (fun _ _ => rfl)) (pv 1)) (pg_sub (pv 0) pe_int set_list))
            (pss_one (ps_ret (pv 2))))) pss_nil)
      (pss_cons (ps_asg (pe_op op_add (pe_ix ix_list (pv 0) pe_int (fun _ _ => rfl)) pe_int) (pg_sub (pv 0) pe_int set_list))
        (pss_cons (ps_set (i := 3) nd rfl (.inl rfl) (pe_ix ix_list (pe_lst (pa_cons pe_int (pa_cons pe_int (pa_cons pe_int (pa_cons pe_int (pa_cons pe_int pa_nil))))))
            (pe_op op_mod (pe_callTy call_int1 rfl T.int boot_int (pa_cons (pe_ix ix_list (pv 0) pe_int (fun _ _ => rfl)) pa_nil)) pe_int) (fun _ _ => rfl)))
          (pss_cons (ps_set (i := 4) nd rfl (.inl rfl) (pe_op op_mod (pe_callTy call_int1 rfl T.int boot_int (pa_cons (pe_op op_powW (pe_callTy call_int1 rfl T.int boot_int (pa_cons
                (pe_op op_add (pe_op op_add (pe_ix ix_list (pv 0) pe_int (fun _ _ => rfl)) (pe_op op_mul (pe_op op_mul pe_int (pe_ix ix_list (pv 0) pe_int (fun _ _ => rfl))) (pe_ix ix_list (pv 0) pe_int (fun _ _ => rfl)))) pe_int) pa_nil)) pe_int) pa_nil)) (pv 3)))
            (pss_cons (ps_set (i := 4) nd rfl (.inl rfl) (pe_op op_mod (pe_callTy call_int1 rfl T.int boot_int (pa_cons (pe_op op_mul (pv 4)
                (pe_op op_add (pe_op op_mod (pe_callTy call_int1 rfl T.int boot_int (pa_cons (pv 4) pa_nil)) pe_int) (pe_op op_mul pe_int (pe_ix ix_list (pv 0) pe_int (fun _ _ => rfl))))) pa_nil)) pe_int))
              (pss_one (ps_ret (pe_op op_mod (pe_callTy call_int1 rfl T.int boot_int (pa_cons (pe_op op_fdiv (pv 4) pe_int) pa_nil)) (pv 1)))))))), ?_⟩
    -- if pot[0] > 0
    refine ⟨_, rfl, a, _, _, _, rfl, rfl, SqL.of hp, rfl, _, _, rfl, rfl, _, rfl, ?_⟩
    refine ite2 (fun hpos => ?_) (fun _ => ?_)
    · refine ⟨_, rfl, a, _, _, _, rfl, rfl, SqL.of hp, rfl, .inl ⟨_, rfl, _, rfl, _, _, rfl, rfl, hn, ?_⟩⟩
      refine ⟨_, rfl, a, _, _, _, rfl, rfl, SqL.of hp, rfl, _, rfl, _, _, rfl, rfl, ⟨hn, by omega⟩, _, rfl, a, _, _, 0, rfl, rfl, hp, rfl, ?_⟩
      refine ⟨_, rfl, ?_⟩
      exact k _ _ (Int.emod_nonneg _ (by omega)) (Int.emod_lt_of_pos _ hn) (ExtP.upd _ _ _)
        ⟨o / n, b, c, upd_same, Int.ediv_nonneg ho (by omega), hb, hb2, hc, by omega⟩
    · -- pot[2] = pot[2] + 1
      refine ⟨_, rfl, a, _, _, _, rfl, rfl, SqL.of hp, rfl, _, _, rfl, rfl, _, rfl, a, _, _, 2, rfl, rfl, hp, rfl, ?_⟩
      have hq : upd H a (.lst [.int o, .int b, .int (c + 1)]) a = some (.lst [.int o, .int b, .int (c + 1)]) := upd_same
      -- prime = [..][int(pot[2]) % 5]
      refine ⟨by rw [sizeLine_eq]; decide, fun p np => ?_⟩
      have nap : a ≠ p := fun z => by rw [← z, upd_same] at np; cases np
      have hq2 : ∀ o', upd (upd H a (.lst [.int o, .int b, .int (c + 1)])) p o' a = some (.lst [.int o, .int b, .int (c + 1)]) := fun o' => by rw [upd_ne nap]; exact hq
      refine ⟨_, rfl, a, _, _, _, rfl, rfl, SqL.of (hq2 _), rfl, .inl ⟨_, rfl, _, _, rfl, rfl, (show (0 : Int) < 5 by decide), ?_⟩⟩
      have r0 : 0 ≤ (c + 1) % 5 := Int.emod_nonneg _ (by decide)
      have r5 : (c + 1) % 5 < 5 := Int.emod_lt_of_pos _ (by decide)
      obtain ⟨pr, hpr, hp0⟩ : ∃ pr : Int, ([V.int 2147483647, .int 2147483629, .int 2147483587, .int 2147483579, .int 2147483563] : List V)[((c + 1) % 5).toNat]? = some (.int pr) ∧ 0 < pr := by
        have : ((c + 1) % 5).toNat = 0 ∨ ((c + 1) % 5).toNat = 1 ∨ ((c + 1) % 5).toNat = 2 ∨ ((c + 1) % 5).toNat = 3 ∨ ((c + 1) % 5).toNat = 4 := by omega
        rcases this with e | e | e | e | e <;> rw [e] <;> exact ⟨_, rfl, by decide⟩
      have hix : atI ([V.int 2147483647, .int 2147483629, .int 2147483587, .int 2147483579, .int 2147483563] : List V) ((c + 1) % 5) = some (.int pr) := by
        have e : (c + 1) % 5 = ((((c + 1) % 5).toNat : Nat) : Int) := by omega
        rw [e]
        exact atI_nat hpr
      refine ⟨p, _, _, _, rfl, rfl, SqL.of upd_same, hix, ?_⟩
      generalize hH : upd _ p _ = H2
      have hq3 : H2 a = some (.lst [.int o, .int b, .int (c + 1)]) := by rw [← hH]; exact hq2 _
      have hx : ExtP a H H2 := fun z u nz e => by
        have nzp : z ≠ p := fun q => by rw [q] at e nz; rw [upd_ne nz] at np; rw [np] at e; cases e
        rw [← hH, upd_ne nzp, upd_ne nz]
        exact e
      -- mixed = int(int(pot[1] + .. * pot[2] * pot[2] + ..) ** 3) % prime
      have c1 : c + 1 ≤ 1000001 := by omega
      refine ⟨_, rfl, a, _, _, _, rfl, rfl, SqL.of hq3, rfl, _, rfl, a, _, _, _, rfl, rfl, SqL.of hq3, rfl, _, _, rfl, rfl, .inl ⟨by decide, by decide⟩, ?_⟩
      refine ⟨_, rfl, a, _, _, _, rfl, rfl, SqL.of hq3, rfl, _, _, rfl, rfl, .inr ⟨by show -(2 ^ 64) < c + 1; omega, by show c + 1 < 2 ^ 64; omega⟩, _, _, rfl, rfl, _, _, rfl, rfl, .inl ⟨_, rfl, ?_⟩⟩
      have z1 : 0 ≤ 97843 * (c + 1) * (c + 1) := Int.mul_nonneg (by omega) (by omega)
      have z2 : 97843 * (c + 1) * (c + 1) ≤ 97843 * 1000001 * 1000001 := Int.mul_le_mul (by omega) c1 (by omega) (by decide)
      refine ⟨_, _, rfl, rfl, ⟨by decide, by decide, ?_⟩, .inl ⟨_, rfl, _, rfl, _, _, rfl, rfl, hp0, ?_⟩⟩
      · have : (b + 97843 * (c + 1) * (c + 1) + 109).natAbs < 2 ^ 64 := by omega
        exact Nat.lt_of_lt_of_le this (Nat.pow_le_pow_right (by decide) (by decide))
      have m0 := Int.emod_nonneg ((b + 97843 * (c + 1) * (c + 1) + 109) ^ (3 : Int).toNat) (show pr ≠ 0 by omega)
      have m1 := Int.emod_lt_of_pos ((b + 97843 * (c + 1) * (c + 1) + 109) ^ (3 : Int).toNat) hp0
      have hpr2 : pr ≤ 2147483647 := by
        have : ((c + 1) % 5).toNat = 0 ∨ ((c + 1) % 5).toNat = 1 ∨ ((c + 1) % 5).toNat = 2 ∨ ((c + 1) % 5).toNat = 3 ∨ ((c + 1) % 5).toNat = 4 := by omega
        rcases this with e | e | e | e | e <;> rw [e] at hpr <;> cases hpr <;> decide
      obtain ⟨m, hm⟩ : ∃ m, m = (b + 97843 * (c + 1) * (c + 1) + 109) ^ (3 : Int).toNat % pr := ⟨_, rfl⟩
      have m2 : -(2 ^ 64) < (b + 97843 * (c + 1) * (c + 1) + 109) ^ (3 : Int).toNat % pr := by rw [← hm] at m0 ⊢; omega
      have m3 : (b + 97843 * (c + 1) * (c + 1) + 109) ^ (3 : Int).toNat % pr < 2 ^ 64 := by rw [← hm] at m1 ⊢; omega
      -- mixed = int(mixed * (int(mixed) % .. + .. * pot[2])) % ..
      refine ⟨_, rfl, _, rfl, .inl ⟨_, rfl, _, _, rfl, rfl, (show (0 : Int) < 10487 by decide), ?_⟩⟩
      refine ⟨_, rfl, a, _, _, _, rfl, rfl, SqL.of hq3, rfl, _, _, rfl, rfl, .inl ⟨by decide, by decide⟩, _, _, rfl, rfl, _, _, rfl, rfl, .inl ⟨m2, m3⟩, .inl ⟨_, rfl, _, _, rfl, rfl, (show (0 : Int) < 2305843009213693907 by decide), ?_⟩⟩
      -- return int(mixed // ..) % upto
      refine ⟨_, rfl, _, _, rfl, rfl, ⟨by decide, by decide⟩, .inl ⟨_, rfl, _, rfl, _, _, rfl, rfl, hn, ?_⟩⟩
      exact k _ _ (Int.emod_nonneg _ (by omega)) (Int.emod_lt_of_pos _ hn) hx ⟨o, b, c + 1, hq3, ho, hb, hb2, by omega, by omega⟩
end
end Kz
set_option Elab.async false
set_option linter.all false
set_option maxRecDepth 100000
set_option maxHeartbeats 4000000
namespace Kz
open PySem PySem.Spec PyProof.Rows L2 Lk
section
variable {P : Program} {w : World} {K : PySem.W.Frag} {mg : Str → Option Value} {base : Heap} {f : Addr} {fd : FuncData}
/-! ### _law_of -/
def spOf : Sp := fun vs H Q _ => ∃ (a l : Addr) (N : Nat) (xs : List V), vs = [.ref a, .ref l] ∧ PotAt a N H ∧ N ≤ 1000000 ∧ l ≠ a ∧ H l = some (.lst xs) ∧ 0 < xs.length ∧ xs.length ≤ 1000 ∧
  ∀ (i : Nat) (x : V) (H' : Hp), xs[i]? = some x → ExtP a H H' → PotAt a (N + 1) H' → Q x H'
theorem scOf : FnScope ["pot", "some"] ["pot", "some"] (defScope sOf) := ⟨rfl, rfl, rfl, by decide +kernel, rfl, by decide +kernel, by decide +kernel⟩
theorem ok_of {f1 : Addr} {fd1 : FuncData} (F : Fun K "_law_of" "_law_of" sOf f fd) (T : Bl mg) (F1 : Fun K "_law_take" "_law_take" sTake f1 fd1) (b1 : Binds K fd1 ["pot", "upto"] []) (m1 : mg "_law_take" = some (.ref f1)) :
    FnOk P w K mg base CX0 2 f fd ["pot", "some"] spOf := by
  have G1 : FnOk P w K mg base CX0 1 f1 fd1 ["pot", "upto"] spTake := ok_take F1 T
  refine F.ok scOf (fun vs H Q E h => ?_) (fun cdv A outer s H vs Q E hr h => ?_)
  · obtain ⟨a, l, N, xs, rfl, _⟩ := h
    rfl
  · obtain ⟨a, l, N, xs, rfl, hp, hN, nla, hl, h0, h1, k⟩ := h
    refine ⟨_, pss_one (ps_ret (pe_ix ix_list (pv 1) (pe_call G1 hr rfl m1 F1.kp b1 .nil pass0 (pa_cons (pv 0) (pa_cons (pe_callB call_len_seq (by rfl) T.len PySem.boot_len (pa_cons (pv 1) pa_nil)) pa_nil))) (fun _ _ => rfl))), ?_⟩
    refine ⟨_, rfl, _, rfl, _, rfl, l, _, rfl, .inl (SqL.of hl), a, _, N, rfl, hp, hN, by omega, by omega, fun i H' i0 i1 ex hp' => ?_⟩
    have hl' : H' l = some (.lst xs) := ex l _ nla hl
    obtain ⟨x, hx⟩ : ∃ x, xs[i.toNat]? = some x := ⟨_, List.getElem?_eq_getElem (by omega)⟩
    refine ⟨l, xs, i, x, rfl, rfl, SqL.of hl', ?_, k i.toNat x H' hx ex hp'⟩
    have e : i = ((i.toNat : Nat) : Int) := by omega
    rw [e]
    exact atI_nat hx
/-! ### _law_cells -/
def spCells (K : PySem.W.Frag) : Sp := fun vs H Q _ => ∃ (a : Addr) (ns : List Int) (m : Int), vs = [.ref a, .int m] ∧ SqL K H a (ns.map V.int) ∧ ns.length ≤ 63 ∧ 0 ≤ m ∧ m ≤ 60 ∧
  ∀ (l : Addr) (n : Nat), n ≤ 63 → H l = none → Q (.ref l) (upd H l (.lst (rgV 0 (n : Int))))
theorem scCells : FnScope ["script", "limit"] ["script", "limit"] (defScope sCells) := ⟨rfl, rfl, rfl, by decide +kernel, rfl, by decide +kernel, by decide +kernel⟩
theorem ok_cells (F : Fun K "_law_cells" "_law_cells" sCells f fd) (T : Bl mg) : FnOk P w K mg base CX0 1 f fd ["script", "limit"] (spCells K) := by
  refine F.ok scCells (fun vs H Q E h => ?_) (fun cdv A outer s H vs Q E hr h => ?_)
  · obtain ⟨a, ns, m, rfl, _⟩ := h
    rfl
  · obtain ⟨a, ns, m, rfl, hs, hl, m0, m1, k⟩ := h
    refine ⟨_, pss_one (ps_ret (pe_listRg rfl (by rfl) T.list (prg_1 (by rfl) T.range (pe_callB (call_max2 rfl) (by rfl) T.max boot_max (pa_cons pe_int (pa_cons
      (pe_callB (call_min2 rfl) (by rfl) T.min boot_min (pa_cons (pv 1) (pa_cons (pe_callB call_len_seq (by rfl) T.len PySem.boot_len (pa_cons (pv 0) pa_nil)) pa_nil))) pa_nil)))))), ?_⟩
    refine ⟨_, rfl, _, rfl, a, _, rfl, .inl hs, _, _, rfl, _, _, rfl, _, rfl, ?_, ?_⟩
    · rw [List.length_map]
      exact RgOk.of_le (by decide) (by split <;> split <;> omega) (by decide) (by split <;> split <;> omega)
    · intro l hn
      have := k l (if (if ((ns.map V.int).length : Int) < m then ((ns.map V.int).length : Int) else m) > 1 then (if ((ns.map V.int).length : Int) < m then ((ns.map V.int).length : Int) else m) else 1).toNat
        (by rw [List.length_map]; split <;> split <;> omega) hn
      rw [Int.toNat_of_nonneg (by rw [List.length_map]; split <;> split <;> omega)] at this
      exact this
/-! ### _law_pot -/
def spPot (K : PySem.W.Frag) : Sp := fun vs H Q _ => ∃ (a : Addr) (ns : List Int) (i : Int), vs = [.ref a, .int i] ∧ SqL K H a (ns.map V.int) ∧ ns.length ≤ 63 ∧ 0 ≤ i ∧ i ≤ 100 ∧
  ∀ (p : Addr) (H' : Hp), H p = none → Same H H' → PotAt p 0 H' → Q (.ref p) H'
theorem scPot : FnScope ["script", "place", "cell", "own", "small"] ["script", "place"] (defScope sPot) := ⟨rfl, rfl, rfl, by decide +kernel, rfl, by decide +kernel, by decide +kernel⟩
theorem ten_pow : (0 : Int) < ((10 : Int) ^ (60 : Int).toNat) ^ (5 : Int).toNat := by decide +kernel
theorem ten_bits : ((10 : Int) ^ (60 : Int).toNat).natAbs < 2 ^ 4096 := by
  refine Nat.lt_of_lt_of_le (show ((10 : Int) ^ (60 : Int).toNat).natAbs < 2 ^ 256 by decide +kernel) (Nat.pow_le_pow_right (by decide) (by decide))
/-- the cell: some int -/
def tCell (K : PySem.W.Frag) : TE := fun σ H Q => ∃ (a : Addr) (ns : List Int) (i : Int), σ[0]? = some (some (.ref a)) ∧ σ[1]? = some (some (.int i)) ∧ SqL K H a (ns.map V.int) ∧ 0 ≤ i ∧ i ≤ 100 ∧ ∀ n : Int, Q (.int n) H
theorem ok_pot (F : Fun K "_law_pot" "_law_pot" sPot f fd) (T : Bl mg) : FnOk P w K mg base CX0 1 f fd ["script", "place"] (spPot K) := by
  refine F.ok scPot (fun vs H Q E h => ?_) (fun cdv A outer s H vs Q E hr h => ?_)
  · obtain ⟨a, ns, i, rfl, _⟩ := h
    rfl
  · obtain ⟨a, ns, i, rfl, hs, hl, i0, i1, k⟩ := h
    have nd := scPot.nd
    refine ⟨_, pss_cons (ps_set (i := 2) nd rfl (.inl rfl) (pe_imp (t' := tCell K) (pe_ifExp (pt_cmpR op_lt (pv 1) (pe_callB call_len_seq (by rfl) T.len PySem.boot_len (pa_cons (pv 0) pa_nil)) (nomark _))
          (pe_ix ix_list (pv 0) (pv 1) (fun _ _ => rfl)) (pe_op op_add (pe_op op_mul pe_int (pv 1)) pe_int)) ?_))
      (pss_cons (ps_set (i := 3) nd rfl (.inl rfl) (pe_op op_mul (pe_op op_mod (pe_callTy call_int1 rfl T.int boot_int (pa_cons (pe_callB call_abs (by rfl) T.abs boot_abs (pa_cons (pv 2) pa_nil)) pa_nil)) (pe_op op_powW (pe_op op_pow pe_int pe_int) pe_int))
          (pe_callTy call_int1 rfl T.int boot_int (pa_cons (pe_cmpR op_ge (pe_callB call_abs (by rfl) T.abs boot_abs (pa_cons (pv 2) pa_nil)) (pe_op op_pow pe_int pe_int) (nomark _)) pa_nil))))
        (pss_cons (ps_set (i := 4) nd rfl (.inl rfl) (pe_op op_mod (pe_callTy call_int1 rfl T.int boot_int (pa_cons (pv 2) pa_nil)) pe_int))
          (pss_one (ps_ret (pe_lst (pa_cons (pv 3) (pa_cons (pe_op op_mod (pe_callTy call_int1 rfl T.int boot_int (pa_cons
            (pe_op op_add (pe_op op_add (pe_op op_mul (pv 4) pe_int) (pe_op op_mul (pe_op op_mul pe_int (pv 1)) (pv 1))) pe_int) pa_nil)) pe_int) (pa_cons pe_int pa_nil)))))))), ?_⟩
    · rintro σ H' Q' ⟨a, ns, i, e0, e1, hs, i0, i1, q⟩
      refine ⟨_, e1, _, e0, a, _, rfl, .inl hs, _, _, rfl, rfl, _, rfl, ?_⟩
      refine ite2 (fun hlt => ?_) (fun _ => ?_)
      · have hlt' : i.toNat < ns.length := by have := of_decide_eq_true hlt; rw [List.length_map] at this; omega
        obtain ⟨x, hx0⟩ : ∃ x, ns[i.toNat]? = some x := ⟨_, List.getElem?_eq_getElem hlt'⟩
        have hx : atI (ns.map V.int) i = some (.int x) := by
          have e : i = ((i.toNat : Nat) : Int) := by omega
          rw [e]
          exact atI_nat (by rw [List.getElem?_map, hx0]; rfl)
        exact ⟨_, e0, _, e1, a, _, _, _, rfl, rfl, hs, hx, q _⟩
      · exact ⟨_, e1, _, _, rfl, rfl, .inl ⟨by decide, by decide⟩, _, _, rfl, rfl, q _⟩
    · refine ⟨a, ns, i, rfl, rfl, hs, i0, i1, fun n => ?_⟩
      have b2 : ∀ c : Bool, -(2 ^ 64) < (if c = true then (1 : Int) else 0) ∧ (if c = true then (1 : Int) else 0) < 2 ^ 64 := by decide
      have b0 : ∀ c : Bool, 0 ≤ (if c = true then (1 : Int) else 0) := by decide
      refine ⟨_, rfl, _, rfl, .inl ⟨_, rfl, _, _, rfl, rfl, ⟨by decide, by decide, by decide⟩, _, _, rfl, rfl, ⟨by decide, by decide, ten_bits⟩, _, _, rfl, rfl, ten_pow, ?_⟩⟩
      refine ⟨_, rfl, _, rfl, _, _, rfl, rfl, ⟨by decide, by decide, by decide⟩, _, _, rfl, rfl, .inr ⟨_, rfl, _, _, rfl, rfl, .inr (b2 _), ?_⟩⟩
      refine ⟨_, rfl, .inl ⟨_, rfl, _, _, rfl, rfl, (show (0 : Int) < 2305843009213693951 by decide), ?_⟩⟩
      refine ⟨_, rfl, _, rfl, _, _, rfl, rfl, .inr ⟨by decide, by decide⟩, _, rfl, _, _, rfl, rfl, .inl ⟨by decide, by decide⟩, _, rfl, _, _, rfl, rfl,
        .inl ⟨by show -(2 ^ 64) < 8026 * i; omega, by show 8026 * i < 2 ^ 64; omega⟩, _, _, rfl, rfl, _, _, rfl, rfl, .inl ⟨_, rfl, _, _, rfl, rfl, (show (0 : Int) < 2305843009213693921 by decide), ?_⟩⟩
      refine ⟨(show 3 ≤ sizeLine by rw [sizeLine_eq]; decide), fun p np => k p _ np (same_new np) ⟨_, _, _, upd_same, ?_, Int.emod_nonneg _ (by decide), ?_, by decide, by decide⟩⟩
      · exact Int.mul_nonneg (Int.emod_nonneg _ (Int.ne_of_gt ten_pow)) (b0 _)
      · exact Int.lt_trans (Int.emod_lt_of_pos _ (show (0 : Int) < 2305843009213693921 by decide)) (by decide)
end
end Kz
set_option Elab.async false
set_option linter.all false
set_option maxRecDepth 100000
set_option maxHeartbeats 4000000
namespace Kz
open PySem PySem.Spec PyProof.Rows L2 Lk
section
variable {P : Program} {w : World} {K : PySem.W.Frag} {mg : Str → Option Value} {base : Heap} {f : Addr} {fd : FuncData}
/-! ### _law_odd -/
def odd1 : List PyData := [.none, .bool true, .bool false, .int 0, .int 1, .int (-1), .int 2, .int 7, .str "", .str "a", .str "x", .str "01", .str "write", .tuple [], .list [], .dict [],
  .tuple [.int 0], .tuple [.tuple []], .list [.int 0], .dict [(.str "a", .int 1)]]
def odd2 : List PyData := [.tuple [.str "a"], .tuple [.str "a", .str "b"], .tuple [.tuple [.str "a"]], .tuple [.tuple [.str "a"], .tuple [.str "b"]], .tuple [.str "a", .int 0], .tuple [.tuple [.str "a", .int 0]],
  .tuple [.str "back", .tuple []], .tuple [.none], .str "A"]
def spOdd : Sp := fun vs H Q _ => ∃ (a : Addr) (N : Nat), vs = [.ref a] ∧ PotAt a N H ∧ N ≤ 1000000 ∧
  ∀ (v : V) (d : PyData) (H' : Hp), d ∈ odd1 ++ odd2 → ExtP a H H' → PotAt a (N + 1) H' → DW (sub H H') v d → Q v H'
theorem scOdd : FnScope ["pot", "some"] ["pot"] (defScope sOdd) := ⟨rfl, rfl, rfl, by decide +kernel, rfl, by decide +kernel, by decide +kernel⟩
theorem ok_odd {f1 f2 : Addr} {fd1 fd2 : FuncData} (F : Fun K "_law_odd" "_law_odd" sOdd f fd) (T : Bl mg) (F1 : Fun K "_law_take" "_law_take" sTake f1 fd1) (b1 : Binds K fd1 ["pot", "upto"] []) (m1 : mg "_law_take" = some (.ref f1))
    (F2 : Fun K "_law_of" "_law_of" sOf f2 fd2) (b2 : Binds K fd2 ["pot", "some"] []) (m2 : mg "_law_of" = some (.ref f2)) : FnOk P w K mg base CX0 3 f fd ["pot"] spOdd := by
  have G2 : FnOk P w K mg base CX0 2 f2 fd2 ["pot", "some"] spOf := ok_of F2 T F1 b1 m1
  refine F.ok scOdd (fun vs H Q E h => ?_) (fun cdv A outer s H vs Q E hr h => ?_)
  · obtain ⟨a, N, rfl, _⟩ := h
    rfl
  · obtain ⟨a, N, rfl, hp, hN, k⟩ := h
    have nd := scOdd.nd
    refine ⟨_, pss_cons (ps_set (i := 1) nd rfl (.inl rfl) (te := tFr (.list odd1)) ?_) (pss_cons (ps_set (i := 1) nd rfl (.inl rfl) (pe_op op_cat (pv 1) (tb := tFr (.list odd2)) ?_))
      (pss_one (ps_ret (pe_call G2 hr rfl m2 F2.kp b2 .nil pass0 (pa_cons (pv 0) (pa_cons (pv 1) pa_nil)))))), ?_⟩
    · repeat (first | exact pds_nil | refine pds_cons ?_ ?_ | exact pd_int | exact pd_str | exact pd_bl | exact pd_non | exact pd_neg | exact pd_dict0 | refine pd_dict1 ?_ | refine pd_tup ?_ | refine pd_lst ?_)
    · repeat (first | exact pds_nil | refine pds_cons ?_ ?_ | exact pd_int | exact pd_str | exact pd_bl | exact pd_non | exact pd_neg | exact pd_dict0 | refine pd_dict1 ?_ | refine pd_tup ?_ | refine pd_lst ?_)
    · intro v1 H1 s1 d1
      cases d1 with
      | @lst l1 xs1 _ e1 n1 w1 =>
        refine ⟨_, rfl, fun v2 H2 s2 d2 => ?_⟩
        cases d2 with
        | @lst l2 xs2 _ e2 n2 w2 =>
          have z1 := w1.length
          have z2 := w2.length
          refine ⟨l1, l2, xs1, xs2, rfl, rfl, s2 _ _ (of_sub e1).2, (of_sub e2).2, ?_, fun p np => ?_⟩
          · rw [z1, z2, sizeLine_eq]; decide
          have s3 : Same H2 (upd H2 p (.lst (xs1 ++ xs2))) := same_new np
          have sAll := (s1.trans s2).trans s3
          have hp3 := hp.same sAll
          have npa : p ≠ a := by
            obtain ⟨o, b, c, e, _⟩ := hp.same (s1.trans s2)
            exact fun z => by rw [z, e] at np; cases np
          refine ⟨_, rfl, _, rfl, a, p, N, xs1 ++ xs2, rfl, hp3, hN, npa, upd_same, ?_, ?_, fun i x H' hx ex hp' => ?_⟩
          · rw [List.length_append, z1, z2]; decide
          · rw [List.length_append, z1, z2]; decide
          have ds : DWs (sub H (upd H2 p (.lst (xs1 ++ xs2)))) (xs1 ++ xs2) (odd1 ++ odd2) := by
            have q1 : DWs (sub H (upd H2 p (.lst (xs1 ++ xs2)))) xs1 odd1 := w1.same (sub_more (s2.trans s3))
            have q2 : DWs (sub H (upd H2 p (.lst (xs1 ++ xs2)))) xs2 odd2 := (w2.same (sub_less s1)).same (sub_more s3)
            exact q1.append q2
          obtain ⟨d, hd, dw⟩ := ds.get' hx
          refine k x d H' (List.mem_of_getElem? hd) ((ExtP.of sAll).trans ex) hp' (dw.same fun b o e => ?_)
          obtain ⟨e0, e3⟩ := of_sub e
          refine sub_of e0 (ex b o (fun z => ?_) e3)
          obtain ⟨_, _, _, ea, _⟩ := hp
          rw [z, ea] at e0
          cases e0
end
end Kz
set_option Elab.async false
set_option linter.all false
set_option maxRecDepth 100000
set_option maxHeartbeats 8000000
namespace Kz
open PySem PySem.Spec PyProof.Rows L2 Lk
abbrev sInit : Stmt := inClass (top 1) 0
abbrev sMade : Stmt := top 67
abbrev sOne : Stmt := top 68
abbrev sTwo : Stmt := top 69
def errNames : List Str := [("BadNames" : Str), ("BadLot" : Str), ("BadLots" : Str), ("BadFamily" : Str), ("Unmet" : Str), ("BadChance" : Str), ("BadShelf" : Str), ("NoKeeper" : Str), ("BadRecord" : Str), ("BadSum" : Str), ("NeverBack" : Str), ("BadAnswers" : Str), ("OtherShelf" : Str), ("BadChanges" : Str), ("BadStore" : Str), ("Held" : Str), ("Full" : Str), ("NoLot" : Str), ("Last" : Str), ("Unsound" : Str), ("BadNumber" : Str), ("Unserved" : Str), ("BadPrices" : Str), ("BadOffers" : Str), ("BadWishes" : Str), ("BadChoice" : Str), ("BadRun" : Str), ("NoRead" : Str), ("NoStamp" : Str), ("BadHistory" : Str), ("NoTurn" : Str), ("TooLong" : Str), ("BadState" : Str), ("BadBound" : Str), ("NeverSure" : Str), ("Unbelieved" : Str), ("BadHolding" : Str), ("Unsafe" : Str), ("BadHelpers" : Str), ("NoHelp" : Str), ("NoPlan" : Str), ("BadWay" : Str), ("TooMany" : Str), ("BadSteps" : Str), ("TooFew" : Str), ("Emptied" : Str), ("BadName" : Str), ("BadPieces" : Str), ("TooManyKeepers" : Str), ("NotOf" : Str), ("Down" : Str), ("IsUp" : Str), ("Misses" : Str), ("Older" : Str), ("NothingToUndo" : Str), ("NothingToRedo" : Str), ("NoTrial" : Str), ("BadJournal" : Str), ("BadLine" : Str)]
section
variable {P : Program} {w : World} {K : PySem.W.Frag} {mg : Str → Option Value} {base : Heap} {f : Addr} {fd : FuncData}
theorem scInit : FnScope ["self", "value"] ["self", "value"] (defScope sInit) := ⟨rfl, rfl, rfl, by decide +kernel, rfl, by decide +kernel, by decide +kernel⟩
theorem ok_init {fI : Addr} {fdI : FuncData} (F : Fun K "__init__" "LotError.__init__" sInit fI fdI) : FnOk P w K mg base CX0 1 fI fdI ["self", "value"] (spInitV K fI) := by
  refine F.ok scInit (fun vs H Q E h => ?_) (fun cdv A outer s H vs Q E hr h => ?_)
  · obtain ⟨a, C, v, rfl, _⟩ := h
    rfl
  · obtain ⟨a, C, v, rfl, T, ha, k⟩ := h
    refine ⟨_, pss_one (ps_ost (pv 0) (pv 1)), ?_⟩
    exact ⟨_, rfl, _, rfl, a, C, rfl, T.oex, T.noV, .inl ⟨ha, fun d hd nd => k d hd nd⟩⟩
/-! ### errors made one after the other -/
theorem as_range (l : List Addr) {n : Nat} (h : l.length = n) : l = (List.range n).map fun i => l.getD i 0 := by
  subst h
  refine List.ext_getElem (by simp) fun i h1 h2 => ?_
  simp [List.getD_eq_getElem?_getD, h1]
/-- errors of these classes, all with the value v -/
def Errs (H : Hp) (v : V) : List Addr → List Addr → Prop := Paired fun C a => ∃ d, ErrAt H C a d v
theorem Errs.same {H H' : Hp} {v : V} {Cs as : List Addr} (h : Errs H v Cs as) (k : Same H H') : Errs H' v Cs as := Paired.mapP h fun _ _ ⟨d, e⟩ => ⟨d, e.same k⟩
theorem Errs.length {H : Hp} {v : V} {Cs as : List Addr} (h : Errs H v Cs as) : Cs.length = as.length := Paired.length h
theorem Errs.append {H : Hp} {v : V} {Cs Ds as bs : List Addr} (h : Errs H v Cs as) (k : Errs H v Ds bs) : Errs H v (Cs ++ Ds) (as ++ bs) := by
  unfold Errs at h
  induction h with
  | nil => exact k
  | cons a _ ih => exact .cons a ih
theorem Errs.get {H : Hp} {v : V} {Cs as : List Addr} {i : Nat} {a : Addr} (h : Errs H v Cs as) (e : as[i]? = some a) : ∃ C d, Cs[i]? = some C ∧ ErrAt H C a d v := by
  unfold Errs at h
  induction h generalizing i with
  | nil => simp at e
  | cons q _ ih =>
    cases i with
    | zero =>
      simp at e
      subst e
      obtain ⟨d, q⟩ := q
      exact ⟨_, d, rfl, q⟩
    | succ i =>
      obtain ⟨C, d, h1, h2⟩ := ih (i := i) (by simpa using e)
      exact ⟨C, d, by simpa using h1, h2⟩
def tErrs (Cs : List Addr) : TA := fun σ H Q => ∃ v, σ[0]? = some (some v) ∧ ∀ as H', Same H H' → Errs H' v Cs as → Q (as.map V.ref) H'
section
variable {X : Cx} {e : Expr} {es : List Expr} {C : Addr} {Cs : List Addr} {pos cpos : Pos}
theorem pes_nil : PA X [] (tErrs []) := pa_imp pa_nil fun _ H _ ⟨_, _, q⟩ => q [] H (Same.refl H) .nil
theorem pes_cons (h : PE X e (tErr C (tCons (tVar 0) tNil))) (r : PA X es (tErrs Cs)) (hs : starEach (e :: es) X.env = (false, eval e X.env) :: starEach es X.env := by rfl) : PA X (e :: es) (tErrs (C :: Cs)) :=
  pa_imp (pa_cons h r hs) fun _ H _ ⟨v, hv, q⟩ => ⟨v, hv, v, rfl, fun a d H2 _ _ s e => ⟨v, hv, fun as H' s' es => q (a :: as) H' (s.trans s') (.cons ⟨d, e.same s'⟩ es)⟩⟩
/-- the list that grows, at l: nothing of H0 is touched -/
def Acc (v : V) (l : Addr) (H0 H : Hp) (Cs as : List Addr) : Prop := Same H0 H ∧ H0 l = none ∧ H l = some (.lst (as.map V.ref)) ∧ Errs H v Cs as
def tAcc (Ds : List Addr) : TS := fun D σ H => ∃ (v : V) (l : Addr) (H0 : Hp) (Cs as : List Addr), σ[0]? = some (some v) ∧ σ[1]? = some (some (.ref l)) ∧ Acc v l H0 H Cs as ∧ as.length + Ds.length ≤ 1000 ∧
  ∀ bs H', Acc v l H0 H' (Cs ++ Ds) (as ++ bs) → bs.length = Ds.length → D.nx σ H'
theorem ps_imp {st : Stmt} {t t' : TS} (h : PS X st t) (k : ∀ D σ H, t' D σ H → t D σ H) : PS X st t' := ⟨fun pins s σ H D I q => h.run pins s σ H D I (k D σ H q)⟩
theorem ps_ext {apos p1 p2 p3 : Pos} {Ds : List Addr} (hN : X.N[1]? = some ("found" : Str)) (hv : Vis X.env.scope "found") (h : PA X (e :: es) (tErrs Ds))
    (hbase : attributeBase (.Name "found" p1) "extend" X.env (eval (.Name "found" p1) X.env) = eval (.Name "found" p1) X.env := by rfl)
    (hfew : ((backTo cpos (starEach [.List (e :: es) p2] X.env)).all (fun x => !x.1) && (backToKw cpos (keywordEach [] X.env)).all (fun x => x.1.isSome)
      && decide (([.List (e :: es) p2] : List Expr).length + ([] : List Keyword).length + (if ([] : List Keyword).isEmpty then 0 else 1) < 30)) = true := by rfl)
    (hline : (apos.endLine == cpos.line) = true := by rfl) :
    PS X (.Expr (.Call (.Attribute (.Name "found" p1) "extend" apos) [.List (e :: es) p2] [] cpos) p3) (tAcc Ds) := by
  refine ps_imp (ps_expr (pe_bm PySem.F.plainAttrs_list PySem.F.slot_list_extend PySem.F.type_list_extend mt_extend (pe_var hN hv) (pa_cons (pe_lst h) pa_nil) hbase hfew hline)) ?_
  rintro D σ H ⟨v, l, H0, Cs, as, hv, hl, ⟨s0, n0, el, er⟩, few, k⟩
  refine ⟨_, hl, .inl ⟨rfl, _, SqL.of el⟩, v, hv, fun bs H1 s1 e1 => ?_⟩
  have lb := e1.length
  refine ⟨by rw [List.length_map, ← lb, sizeLine_eq]; omega, fun p np => ?_⟩
  have s2 : Same H1 (upd H1 p (.lst (bs.map V.ref))) := same_new np
  have el2 := s2 _ _ (s1 _ _ el)
  refine ⟨l, p, _, _, rfl, rfl, el2, upd_same, by rw [List.length_map, List.length_map, ← lb, sizeLine_eq]; omega, ?_⟩
  refine k bs _ ⟨fun b o e => ?_, n0, by rw [upd_same, List.map_append], ?_⟩ lb.symm
  · have nb := ne_of_none e n0
    rw [upd_ne nb]
    exact s2 _ _ (s1 _ _ (s0 _ _ e))
  · have all : Errs (upd H1 p (.lst (bs.map V.ref))) v (Cs ++ Ds) (as ++ bs) := (er.same (s1.trans s2)).append (e1.same s2)
    refine Paired.mapP all fun C a ⟨d, h1, h2⟩ => ⟨d, ?_, ?_⟩
    · rw [upd_ne (at_ne el2 h1 (fun z => by cases (show HO.lst _ = HO.ext _ from z)))]
      exact h1
    · rw [upd_ne (at_ne el2 h2 (fun z => by cases (show HO.lst _ = HO.ext _ from z)))]
      exact h2
end

def spMade (K : PySem.W.Frag) (fI : Addr) (Cs : List Addr) : Sp := fun vs H Q _ => ∃ v, vs = [v] ∧ ∀ l as H', Acc v l H H' Cs as → Q (.ref l) H'
theorem scMade : FnScope ["value", "found"] ["value"] (defScope sMade) := ⟨rfl, rfl, rfl, by decide +kernel, rfl, by decide +kernel, by decide +kernel⟩
theorem ok_made {fI : Addr} {fdI : FuncData} {Cs : List Addr} {ms : List Value} (F : Fun K "_law_all_made" "_law_all_made" sMade f fd) (FI : Fun K "__init__" "LotError.__init__" sInit fI fdI) (hbI : Binds K fdI ["self", "value"] [])
    (TK : ErK K fI) (TR : ErRows K mg fI ms errNames Cs) : FnOk P w K mg base CX0 3 f fd ["value"] (spMade K fI Cs) := by
  have GI : FnOk P w K mg base CX0 1 fI fdI ["self", "value"] (spInitV K fI) := ok_init FI
  refine F.ok scMade (fun vs H Q E h => ?_) (fun cdv A outer s H vs Q E hr h => ?_)
  · obtain ⟨v, rfl, _⟩ := h
    rfl
  · obtain ⟨v, rfl, k⟩ := h
    refine ⟨_, pss_cons (ps_set (i := 1) scMade.nd rfl (.inl rfl) (pe_lst pa_nil)) (pss_cons (ps_ext rfl (.inl rfl) ((pes_cons (pe_err (TR.get 0 rfl).er TK GI hr hbI rfl (TR.get 0 rfl).at_ (pa_cons (pv 0) pa_nil)) (pes_cons (pe_err (TR.get 1 rfl).er TK GI hr hbI rfl (TR.get 1 rfl).at_ (pa_cons (pv 0) pa_nil)) (pes_cons (pe_err (TR.get 2 rfl).er TK GI hr hbI rfl (TR.get 2 rfl).at_ (pa_cons (pv 0) pa_nil)) (pes_cons (pe_err (TR.get 3 rfl).er TK GI hr hbI rfl (TR.get 3 rfl).at_ (pa_cons (pv 0) pa_nil)) (pes_cons (pe_err (TR.get 4 rfl).er TK GI hr hbI rfl (TR.get 4 rfl).at_ (pa_cons (pv 0) pa_nil)) (pes_cons (pe_err (TR.get 5 rfl).er TK GI hr hbI rfl (TR.get 5 rfl).at_ (pa_cons (pv 0) pa_nil)) pes_nil)))))))) (pss_cons (ps_ext rfl (.inl rfl) ((pes_cons (pe_err (TR.get 6 rfl).er TK GI hr hbI rfl (TR.get 6 rfl).at_ (pa_cons (pv 0) pa_nil)) (pes_cons (pe_err (TR.get 7 rfl).er TK GI hr hbI rfl (TR.get 7 rfl).at_ (pa_cons (pv 0) pa_nil)) (pes_cons (pe_err (TR.get 8 rfl).er TK GI hr hbI rfl (TR.get 8 rfl).at_ (pa_cons (pv 0) pa_nil)) (pes_cons (pe_err (TR.get 9 rfl).er TK GI hr hbI rfl (TR.get 9 rfl).at_ (pa_cons (pv 0) pa_nil)) pes_nil)))))) (pss_cons (ps_ext rfl (.inl rfl) ((pes_cons (pe_err (TR.get 10 rfl).er TK GI hr hbI rfl (TR.get 10 rfl).at_ (pa_cons (pv 0) pa_nil)) (pes_cons (pe_err (TR.get 11 rfl).er TK GI hr hbI rfl (TR.get 11 rfl).at_ (pa_cons (pv 0) pa_nil)) pes_nil)))) (pss_cons (ps_ext rfl (.inl rfl) ((pes_cons (pe_err (TR.get 12 rfl).er TK GI hr hbI rfl (TR.get 12 rfl).at_ (pa_cons (pv 0) pa_nil)) (pes_cons (pe_err (TR.get 13 rfl).er TK GI hr hbI rfl (TR.get 13 rfl).at_ (pa_cons (pv 0) pa_nil)) (pes_cons (pe_err (TR.get 14 rfl).er TK GI hr hbI rfl (TR.get 14 rfl).at_ (pa_cons (pv 0) pa_nil)) (pes_cons (pe_err (TR.get 15 rfl).er TK GI hr hbI rfl (TR.get 15 rfl).at_ (pa_cons (pv 0) pa_nil)) (pes_cons (pe_err (TR.get 16 rfl).er TK GI hr hbI rfl (TR.get 16 rfl).at_ (pa_cons (pv 0) pa_nil)) (pes_cons (pe_err (TR.get 17 rfl).er TK GI hr hbI rfl (TR.get 17 rfl).at_ (pa_cons (pv 0) pa_nil)) pes_nil)))))))) (pss_cons (ps_ext rfl (.inl rfl) ((pes_cons (pe_err (TR.get 18 rfl).er TK GI hr hbI rfl (TR.get 18 rfl).at_ (pa_cons (pv 0) pa_nil)) (pes_cons (pe_err (TR.get 19 rfl).er TK GI hr hbI rfl (TR.get 19 rfl).at_ (pa_cons (pv 0) pa_nil)) (pes_cons (pe_err (TR.get 20 rfl).er TK GI hr hbI rfl (TR.get 20 rfl).at_ (pa_cons (pv 0) pa_nil)) (pes_cons (pe_err (TR.get 21 rfl).er TK GI hr hbI rfl (TR.get 21 rfl).at_ (pa_cons (pv 0) pa_nil)) (pes_cons (pe_err (TR.get 22 rfl).er TK GI hr hbI rfl (TR.get 22 rfl).at_ (pa_cons (pv 0) pa_nil)) (pes_cons (pe_err (TR.get 23 rfl).er TK GI hr hbI rfl (TR.get 23 rfl).at_ (pa_cons (pv 0) pa_nil)) pes_nil)))))))) (pss_cons (ps_ext rfl (.inl rfl) ((pes_cons (pe_err (TR.get 24 rfl).er TK GI hr hbI rfl (TR.get 24 rfl).at_ (pa_cons (pv 0) pa_nil)) (pes_cons (pe_err (TR.get 25 rfl).er TK GI hr hbI rfl (TR.get 25 rfl).at_ (pa_cons (pv 0) pa_nil)) (pes_cons (pe_err (TR.get 26 rfl).er TK GI hr hbI rfl (TR.get 26 rfl).at_ (pa_cons (pv 0) pa_nil)) (pes_cons (pe_err (TR.get 27 rfl).er TK GI hr hbI rfl (TR.get 27 rfl).at_ (pa_cons (pv 0) pa_nil)) (pes_cons (pe_err (TR.get 28 rfl).er TK GI hr hbI rfl (TR.get 28 rfl).at_ (pa_cons (pv 0) pa_nil)) (pes_cons (pe_err (TR.get 29 rfl).er TK GI hr hbI rfl (TR.get 29 rfl).at_ (pa_cons (pv 0) pa_nil)) pes_nil)))))))) (pss_cons (ps_ext rfl (.inl rfl) ((pes_cons (pe_err (TR.get 30 rfl).er TK GI hr hbI rfl (TR.get 30 rfl).at_ (pa_cons (pv 0) pa_nil)) (pes_cons (pe_err (TR.get 31 rfl).er TK GI hr hbI rfl (TR.get 31 rfl).at_ (pa_cons (pv 0) pa_nil)) (pes_cons (pe_err (TR.get 32 rfl).er TK GI hr hbI rfl (TR.get 32 rfl).at_ (pa_cons (pv 0) pa_nil)) (pes_cons (pe_err (TR.get 33 rfl).er TK GI hr hbI rfl (TR.get 33 rfl).at_ (pa_cons (pv 0) pa_nil)) (pes_cons (pe_err (TR.get 34 rfl).er TK GI hr hbI rfl (TR.get 34 rfl).at_ (pa_cons (pv 0) pa_nil)) (pes_cons (pe_err (TR.get 35 rfl).er TK GI hr hbI rfl (TR.get 35 rfl).at_ (pa_cons (pv 0) pa_nil)) pes_nil)))))))) (pss_cons (ps_ext rfl (.inl rfl) ((pes_cons (pe_err (TR.get 36 rfl).er TK GI hr hbI rfl (TR.get 36 rfl).at_ (pa_cons (pv 0) pa_nil)) (pes_cons (pe_err (TR.get 37 rfl).er TK GI hr hbI rfl (TR.get 37 rfl).at_ (pa_cons (pv 0) pa_nil)) (pes_cons (pe_err (TR.get 38 rfl).er TK GI hr hbI rfl (TR.get 38 rfl).at_ (pa_cons (pv 0) pa_nil)) (pes_cons (pe_err (TR.get 39 rfl).er TK GI hr hbI rfl (TR.get 39 rfl).at_ (pa_cons (pv 0) pa_nil)) (pes_cons (pe_err (TR.get 40 rfl).er TK GI hr hbI rfl (TR.get 40 rfl).at_ (pa_cons (pv 0) pa_nil)) (pes_cons (pe_err (TR.get 41 rfl).er TK GI hr hbI rfl (TR.get 41 rfl).at_ (pa_cons (pv 0) pa_nil)) pes_nil)))))))) (pss_cons (ps_ext rfl (.inl rfl) ((pes_cons (pe_err (TR.get 42 rfl).er TK GI hr hbI rfl (TR.get 42 rfl).at_ (pa_cons (pv 0) pa_nil)) (pes_cons (pe_err (TR.get 43 rfl).er TK GI hr hbI rfl (TR.get 43 rfl).at_ (pa_cons (pv 0) pa_nil)) (pes_cons (pe_err (TR.get 44 rfl).er TK GI hr hbI rfl (TR.get 44 rfl).at_ (pa_cons (pv 0) pa_nil)) (pes_cons (pe_err (TR.get 45 rfl).er TK GI hr hbI rfl (TR.get 45 rfl).at_ (pa_cons (pv 0) pa_nil)) (pes_cons (pe_err (TR.get 46 rfl).er TK GI hr hbI rfl (TR.get 46 rfl).at_ (pa_cons (pv 0) pa_nil)) (pes_cons (pe_err (TR.get 47 rfl).er TK GI hr hbI rfl (TR.get 47 rfl).at_ (pa_cons (pv 0) pa_nil)) pes_nil)))))))) (pss_cons (ps_ext rfl (.inl rfl) ((pes_cons (pe_err (TR.get 48 rfl).er TK GI hr hbI rfl (TR.get 48 rfl).at_ (pa_cons (pv 0) pa_nil)) (pes_cons (pe_err (TR.get 49 rfl).er TK GI hr hbI rfl (TR.get 49 rfl).at_ (pa_cons (pv 0) pa_nil)) (pes_cons (pe_err (TR.get 50 rfl).er TK GI hr hbI rfl (TR.get 50 rfl).at_ (pa_cons (pv 0) pa_nil)) (pes_cons (pe_err (TR.get 51 rfl).er TK GI hr hbI rfl (TR.get 51 rfl).at_ (pa_cons (pv 0) pa_nil)) (pes_cons (pe_err (TR.get 52 rfl).er TK GI hr hbI rfl (TR.get 52 rfl).at_ (pa_cons (pv 0) pa_nil)) (pes_cons (pe_err (TR.get 53 rfl).er TK GI hr hbI rfl (TR.get 53 rfl).at_ (pa_cons (pv 0) pa_nil)) pes_nil)))))))) (pss_cons (ps_ext rfl (.inl rfl) ((pes_cons (pe_err (TR.get 54 rfl).er TK GI hr hbI rfl (TR.get 54 rfl).at_ (pa_cons (pv 0) pa_nil)) (pes_cons (pe_err (TR.get 55 rfl).er TK GI hr hbI rfl (TR.get 55 rfl).at_ (pa_cons (pv 0) pa_nil)) (pes_cons (pe_err (TR.get 56 rfl).er TK GI hr hbI rfl (TR.get 56 rfl).at_ (pa_cons (pv 0) pa_nil)) (pes_cons (pe_err (TR.get 57 rfl).er TK GI hr hbI rfl (TR.get 57 rfl).at_ (pa_cons (pv 0) pa_nil)) (pes_cons (pe_err (TR.get 58 rfl).er TK GI hr hbI rfl (TR.get 58 rfl).at_ (pa_cons (pv 0) pa_nil)) pes_nil))))))) (pss_one (ps_ret (pv 1)))))))))))))), ?_⟩
    refine ⟨Nat.zero_le _, fun l nl => ?_⟩
    have a0 : Acc v l H (upd H l (.lst ([] : List V))) [] [] := ⟨same_new nl, nl, upd_same, .nil⟩
    refine ⟨v, l, H, _, _, rfl, rfl, a0, (by simp), fun b0 H1 a1 z0 => ?_⟩
    refine ⟨v, l, H, _, _, rfl, rfl, a1, (by simp [z0]), fun b1 H2 a2 z1 => ?_⟩
    refine ⟨v, l, H, _, _, rfl, rfl, a2, (by simp [z0, z1]), fun b2 H3 a3 z2 => ?_⟩
    refine ⟨v, l, H, _, _, rfl, rfl, a3, (by simp [z0, z1, z2]), fun b3 H4 a4 z3 => ?_⟩
    refine ⟨v, l, H, _, _, rfl, rfl, a4, (by simp [z0, z1, z2, z3]), fun b4 H5 a5 z4 => ?_⟩
    refine ⟨v, l, H, _, _, rfl, rfl, a5, (by simp [z0, z1, z2, z3, z4]), fun b5 H6 a6 z5 => ?_⟩
    refine ⟨v, l, H, _, _, rfl, rfl, a6, (by simp [z0, z1, z2, z3, z4, z5]), fun b6 H7 a7 z6 => ?_⟩
    refine ⟨v, l, H, _, _, rfl, rfl, a7, (by simp [z0, z1, z2, z3, z4, z5, z6]), fun b7 H8 a8 z7 => ?_⟩
    refine ⟨v, l, H, _, _, rfl, rfl, a8, (by simp [z0, z1, z2, z3, z4, z5, z6, z7]), fun b8 H9 a9 z8 => ?_⟩
    refine ⟨v, l, H, _, _, rfl, rfl, a9, (by simp [z0, z1, z2, z3, z4, z5, z6, z7, z8]), fun b9 H10 a10 z9 => ?_⟩
    refine ⟨v, l, H, _, _, rfl, rfl, a10, (by simp [z0, z1, z2, z3, z4, z5, z6, z7, z8, z9]), fun b10 H11 a11 z10 => ?_⟩
    have fin := a11
    have e : Cs = ([] ++ [Cs.getD 0 0, Cs.getD 1 0, Cs.getD 2 0, Cs.getD 3 0, Cs.getD 4 0, Cs.getD 5 0] ++ [Cs.getD 6 0, Cs.getD 7 0, Cs.getD 8 0, Cs.getD 9 0] ++ [Cs.getD 10 0, Cs.getD 11 0] ++ [Cs.getD 12 0, Cs.getD 13 0, Cs.getD 14 0, Cs.getD 15 0, Cs.getD 16 0, Cs.getD 17 0] ++ [Cs.getD 18 0, Cs.getD 19 0, Cs.getD 20 0, Cs.getD 21 0, Cs.getD 22 0, Cs.getD 23 0] ++ [Cs.getD 24 0, Cs.getD 25 0, Cs.getD 26 0, Cs.getD 27 0, Cs.getD 28 0, Cs.getD 29 0] ++ [Cs.getD 30 0, Cs.getD 31 0, Cs.getD 32 0, Cs.getD 33 0, Cs.getD 34 0, Cs.getD 35 0] ++ [Cs.getD 36 0, Cs.getD 37 0, Cs.getD 38 0, Cs.getD 39 0, Cs.getD 40 0, Cs.getD 41 0] ++ [Cs.getD 42 0, Cs.getD 43 0, Cs.getD 44 0, Cs.getD 45 0, Cs.getD 46 0, Cs.getD 47 0] ++ [Cs.getD 48 0, Cs.getD 49 0, Cs.getD 50 0, Cs.getD 51 0, Cs.getD 52 0, Cs.getD 53 0] ++ [Cs.getD 54 0, Cs.getD 55 0, Cs.getD 56 0, Cs.getD 57 0, Cs.getD 58 0]) := by
      have hn : Cs.length = 59 := TR.length.symm
      exact (as_range Cs hn).trans rfl
    rw [← e] at fin
    exact ⟨_, rfl, k l _ _ fin⟩

/-! ### which error it is -/
def tIss (K : PySem.W.Frag) (Ds : List Addr) : TA := fun σ H Q => ∃ (a C d fI : Addr) (v : V), σ[0]? = some (some (.ref a)) ∧ ErC K C fI ∧ ErK K fI ∧ ErrAt H C a d v ∧
  (∀ D ∈ Ds, PySem.W.kitOne K (.ref C) (.ref D) = some (decide (C = D))) ∧ Q (Ds.map fun D => V.bl (decide (C = D))) H
section
variable {X : Cx} {e : Expr} {es : List Expr} {D : Addr} {Ds : List Addr} {pos cpos p1 p2 p3 : Pos} {y : Str}
theorem pis_nil : PA X [] (tIss X.K []) := pa_imp pa_nil fun _ H _ ⟨_, _, _, _, _, _, _, _, _, _, q⟩ => q
theorem pis_cons (hN : X.N[0]? = some ("error" : Str)) (hv : Vis X.env.scope "error") (hg : Gl X "isinstance") (hm : X.mg "isinstance" = none) (hy : Gl X y) (hD : X.mg y = some (.ref D)) (hdb : (y == ("__debug__" : Str)) = false)
    (r : PA X es (tIss X.K Ds)) (hs : starEach (.Call (.Name "isinstance" p1) [.Name "error" p2, .Name y p3] [] pos :: es) X.env = (false, eval (.Call (.Name "isinstance" p1) [.Name "error" p2, .Name y p3] [] pos) X.env) :: starEach es X.env := by rfl) :
    PA X (.Call (.Name "isinstance" p1) [.Name "error" p2, .Name y p3] [] pos :: es) (tIss X.K (D :: Ds)) :=
  pa_imp (pa_cons (pe_callB call_errIs hg hm boot_isinstance (pa_cons (pe_var hN hv) (pa_cons (pe_glob (v := .ref D) hy hD rfl hdb) pa_nil))) r hs) fun _ H _ ⟨a, C, d, fI, v, hv, T, TK, er, kit, q⟩ =>
    ⟨_, hv, a, C, d, fI, v, _, _, _, rfl, T, TK, er, .own D, kit D List.mem_cons_self, a, C, d, fI, v, hv, T, TK, er, fun D' h => kit D' (List.mem_cons_of_mem _ h), q⟩
/-- the list of answers, at l -/
def tBits (K : PySem.W.Frag) (Ds : List Addr) : TS := fun D σ H => ∃ (l a C d fI : Addr) (v : V) (H0 : Hp) (bs : List Bool), σ[0]? = some (some (.ref a)) ∧ σ[1]? = some (some (.ref l)) ∧ Same H0 H ∧ H0 l = none ∧ H l = some (.lst (bs.map V.bl)) ∧
  ErC K C fI ∧ ErK K fI ∧ ErrAt H0 C a d v ∧ (∀ D ∈ Ds, PySem.W.kitOne K (.ref C) (.ref D) = some (decide (C = D))) ∧ bs.length + Ds.length ≤ 1000 ∧
  ∀ H', Same H0 H' → H' l = some (.lst ((bs ++ Ds.map fun D => decide (C = D)).map V.bl)) → D.nx σ H'
theorem ps_exb {apos p1 p2 p3 : Pos} (hN : X.N[1]? = some ("found" : Str)) (hv : Vis X.env.scope "found") (h : PA X (e :: es) (tIss X.K Ds))
    (hbase : attributeBase (.Name "found" p1) "extend" X.env (eval (.Name "found" p1) X.env) = eval (.Name "found" p1) X.env := by rfl)
    (hfew : ((backTo cpos (starEach [.List (e :: es) p2] X.env)).all (fun x => !x.1) && (backToKw cpos (keywordEach [] X.env)).all (fun x => x.1.isSome)
      && decide (([.List (e :: es) p2] : List Expr).length + ([] : List Keyword).length + (if ([] : List Keyword).isEmpty then 0 else 1) < 30)) = true := by rfl)
    (hline : (apos.endLine == cpos.line) = true := by rfl) :
    PS X (.Expr (.Call (.Attribute (.Name "found" p1) "extend" apos) [.List (e :: es) p2] [] cpos) p3) (tBits X.K Ds) := by
  refine ps_imp (ps_expr (pe_bm PySem.F.plainAttrs_list PySem.F.slot_list_extend PySem.F.type_list_extend mt_extend (pe_var hN hv) (pa_cons (pe_lst h) pa_nil) hbase hfew hline)) ?_
  rintro D σ H ⟨l, a, C, d, fI, v, H0, bs, hv, hl, s0, n0, el, T, TK, er, kit, few, k⟩
  refine ⟨_, hl, .inl ⟨rfl, _, SqL.of el⟩, a, C, d, fI, v, hv, T, TK, er.same s0, kit, by rw [List.length_map, sizeLine_eq]; omega, fun p np => ?_⟩
  have s2 := same_new (o := .lst (Ds.map fun D => V.bl (decide (C = D)))) np
  refine ⟨l, p, _, _, rfl, rfl, s2 _ _ el, upd_same, by rw [List.length_map, List.length_map, sizeLine_eq]; omega, ?_⟩
  refine k _ (fun b o e => ?_) (by rw [upd_same, List.map_append, List.map_map]; rfl)
  rw [upd_ne (ne_of_none e n0)]
  exact s2 _ _ (s0 _ _ e)
end
def spMarks (K : PySem.W.Frag) (Ds : List Addr) : Sp := fun vs H Q _ => ∃ (a C d fI : Addr) (v : V), vs = [.ref a] ∧ ErC K C fI ∧ ErK K fI ∧ ErrAt H C a d v ∧ (∀ D ∈ Ds, PySem.W.kitOne K (.ref C) (.ref D) = some (decide (C = D))) ∧
  ∀ l H', H l = none → Same H H' → H' l = some (.lst ((Ds.map fun D => decide (C = D)).map V.bl)) → Q (.ref l) H'
def dOne (Cs : List Addr) : List Addr := (List.range 30).map fun i => Cs.getD i 0
def dTwo (Cs : List Addr) : List Addr := (List.range 29).map fun i => Cs.getD (30 + i) 0
theorem scOne : FnScope ["error", "found"] ["error"] (defScope sOne) := ⟨rfl, rfl, rfl, by decide +kernel, rfl, by decide +kernel, by decide +kernel⟩
theorem ok_one {fI : Addr} {Cs : List Addr} {ms : List Value} (F : Fun K "_law_marks_one" "_law_marks_one" sOne f fd) (hI : mg "isinstance" = none) (TR : ErRows K mg fI ms errNames Cs) : FnOk P w K mg base CX0 1 f fd ["error"] (spMarks K (dOne Cs)) := by
  refine F.ok scOne (fun vs H Q E h => ?_) (fun cdv A outer s H vs Q E hr h => ?_)
  · obtain ⟨a, C, d, fI, v, rfl, _⟩ := h
    rfl
  · obtain ⟨a, C, d, fJ, v, rfl, T, TK, er, kit, k⟩ := h
    refine ⟨_, pss_cons (ps_set (i := 1) scOne.nd rfl (.inl rfl) (pe_lst pa_nil)) (pss_cons (ps_exb rfl (.inl rfl) (pis_cons rfl (.inl rfl) (by rfl) hI (by rfl) (TR.get 0 rfl).at_ rfl (pis_cons rfl (.inl rfl) (by rfl) hI (by rfl) (TR.get 1 rfl).at_ rfl (pis_cons rfl (.inl rfl) (by rfl) hI (by rfl) (TR.get 2 rfl).at_ rfl pis_nil)))) (pss_cons (ps_exb rfl (.inl rfl) (pis_cons rfl (.inl rfl) (by rfl) hI (by rfl) (TR.get 3 rfl).at_ rfl (pis_cons rfl (.inl rfl) (by rfl) hI (by rfl) (TR.get 4 rfl).at_ rfl (pis_cons rfl (.inl rfl) (by rfl) hI (by rfl) (TR.get 5 rfl).at_ rfl pis_nil)))) (pss_cons (ps_exb rfl (.inl rfl) (pis_cons rfl (.inl rfl) (by rfl) hI (by rfl) (TR.get 6 rfl).at_ rfl (pis_cons rfl (.inl rfl) (by rfl) hI (by rfl) (TR.get 7 rfl).at_ rfl (pis_cons rfl (.inl rfl) (by rfl) hI (by rfl) (TR.get 8 rfl).at_ rfl pis_nil)))) (pss_cons (ps_exb rfl (.inl rfl) (pis_cons rfl (.inl rfl) (by rfl) hI (by rfl) (TR.get 9 rfl).at_ rfl (pis_cons rfl (.inl rfl) (by rfl) hI (by rfl) (TR.get 10 rfl).at_ rfl (pis_cons rfl (.inl rfl) (by rfl) hI (by rfl) (TR.get 11 rfl).at_ rfl pis_nil)))) (pss_cons (ps_exb rfl (.inl rfl) (pis_cons rfl (.inl rfl) (by rfl) hI (by rfl) (TR.get 12 rfl).at_ rfl (pis_cons rfl (.inl rfl) (by rfl) hI (by rfl) (TR.get 13 rfl).at_ rfl (pis_cons rfl (.inl rfl) (by rfl) hI (by rfl) (TR.get 14 rfl).at_ rfl pis_nil)))) (pss_cons (ps_exb rfl (.inl rfl) (pis_cons rfl (.inl rfl) (by rfl) hI (by rfl) (TR.get 15 rfl).at_ rfl (pis_cons rfl (.inl rfl) (by rfl) hI (by rfl) (TR.get 16 rfl).at_ rfl (pis_cons rfl (.inl rfl) (by rfl) hI (by rfl) (TR.get 17 rfl).at_ rfl pis_nil)))) (pss_cons (ps_exb rfl (.inl rfl) (pis_cons rfl (.inl rfl) (by rfl) hI (by rfl) (TR.get 18 rfl).at_ rfl (pis_cons rfl (.inl rfl) (by rfl) hI (by rfl) (TR.get 19 rfl).at_ rfl (pis_cons rfl (.inl rfl) (by rfl) hI (by rfl) (TR.get 20 rfl).at_ rfl pis_nil)))) (pss_cons (ps_exb rfl (.inl rfl) (pis_cons rfl (.inl rfl) (by rfl) hI (by rfl) (TR.get 21 rfl).at_ rfl (pis_cons rfl (.inl rfl) (by rfl) hI (by rfl) (TR.get 22 rfl).at_ rfl (pis_cons rfl (.inl rfl) (by rfl) hI (by rfl) (TR.get 23 rfl).at_ rfl pis_nil)))) (pss_cons (ps_exb rfl (.inl rfl) (pis_cons rfl (.inl rfl) (by rfl) hI (by rfl) (TR.get 24 rfl).at_ rfl (pis_cons rfl (.inl rfl) (by rfl) hI (by rfl) (TR.get 25 rfl).at_ rfl (pis_cons rfl (.inl rfl) (by rfl) hI (by rfl) (TR.get 26 rfl).at_ rfl pis_nil)))) (pss_cons (ps_exb rfl (.inl rfl) (pis_cons rfl (.inl rfl) (by rfl) hI (by rfl) (TR.get 27 rfl).at_ rfl (pis_cons rfl (.inl rfl) (by rfl) hI (by rfl) (TR.get 28 rfl).at_ rfl (pis_cons rfl (.inl rfl) (by rfl) hI (by rfl) (TR.get 29 rfl).at_ rfl pis_nil)))) (pss_one (ps_ret (pv 1))))))))))))), ?_⟩
    refine ⟨Nat.zero_le _, fun l nl => ?_⟩
    have sub_kit : ∀ Es : List Addr, (∀ D ∈ Es, D ∈ dOne Cs) → ∀ D ∈ Es, PySem.W.kitOne K (.ref C) (.ref D) = some (decide (C = D)) := fun Es h D hD => kit D (h D hD)
    refine ⟨l, a, C, d, fJ, v, H, [], rfl, rfl, same_new nl, nl, upd_same, T, TK, er, sub_kit _ (by simp [dOne, List.range_succ]), (by simp), fun H0 s0 e0 => ?_⟩
    refine ⟨l, a, C, d, fJ, v, H, _, rfl, rfl, s0, nl, e0, T, TK, er, sub_kit _ (by simp [dOne, List.range_succ]), (by simp), fun H1 s1 e1 => ?_⟩
    refine ⟨l, a, C, d, fJ, v, H, _, rfl, rfl, s1, nl, e1, T, TK, er, sub_kit _ (by simp [dOne, List.range_succ]), (by simp), fun H2 s2 e2 => ?_⟩
    refine ⟨l, a, C, d, fJ, v, H, _, rfl, rfl, s2, nl, e2, T, TK, er, sub_kit _ (by simp [dOne, List.range_succ]), (by simp), fun H3 s3 e3 => ?_⟩
    refine ⟨l, a, C, d, fJ, v, H, _, rfl, rfl, s3, nl, e3, T, TK, er, sub_kit _ (by simp [dOne, List.range_succ]), (by simp), fun H4 s4 e4 => ?_⟩
    refine ⟨l, a, C, d, fJ, v, H, _, rfl, rfl, s4, nl, e4, T, TK, er, sub_kit _ (by simp [dOne, List.range_succ]), (by simp), fun H5 s5 e5 => ?_⟩
    refine ⟨l, a, C, d, fJ, v, H, _, rfl, rfl, s5, nl, e5, T, TK, er, sub_kit _ (by simp [dOne, List.range_succ]), (by simp), fun H6 s6 e6 => ?_⟩
    refine ⟨l, a, C, d, fJ, v, H, _, rfl, rfl, s6, nl, e6, T, TK, er, sub_kit _ (by simp [dOne, List.range_succ]), (by simp), fun H7 s7 e7 => ?_⟩
    refine ⟨l, a, C, d, fJ, v, H, _, rfl, rfl, s7, nl, e7, T, TK, er, sub_kit _ (by simp [dOne, List.range_succ]), (by simp), fun H8 s8 e8 => ?_⟩
    refine ⟨l, a, C, d, fJ, v, H, _, rfl, rfl, s8, nl, e8, T, TK, er, sub_kit _ (by simp [dOne, List.range_succ]), (by simp), fun H9 s9 e9 => ?_⟩
    exact ⟨_, rfl, k l _ nl s9 e9⟩
theorem scTwo : FnScope ["error", "found"] ["error"] (defScope sTwo) := ⟨rfl, rfl, rfl, by decide +kernel, rfl, by decide +kernel, by decide +kernel⟩
theorem ok_two {fI : Addr} {Cs : List Addr} {ms : List Value} (F : Fun K "_law_marks_two" "_law_marks_two" sTwo f fd) (hI : mg "isinstance" = none) (TR : ErRows K mg fI ms errNames Cs) : FnOk P w K mg base CX0 1 f fd ["error"] (spMarks K (dTwo Cs)) := by
  refine F.ok scTwo (fun vs H Q E h => ?_) (fun cdv A outer s H vs Q E hr h => ?_)
  · obtain ⟨a, C, d, fI, v, rfl, _⟩ := h
    rfl
  · obtain ⟨a, C, d, fJ, v, rfl, T, TK, er, kit, k⟩ := h
    refine ⟨_, pss_cons (ps_set (i := 1) scTwo.nd rfl (.inl rfl) (pe_lst pa_nil)) (pss_cons (ps_exb rfl (.inl rfl) (pis_cons rfl (.inl rfl) (by rfl) hI (by rfl) (TR.get 30 rfl).at_ rfl (pis_cons rfl (.inl rfl) (by rfl) hI (by rfl) (TR.get 31 rfl).at_ rfl (pis_cons rfl (.inl rfl) (by rfl) hI (by rfl) (TR.get 32 rfl).at_ rfl pis_nil)))) (pss_cons (ps_exb rfl (.inl rfl) (pis_cons rfl (.inl rfl) (by rfl) hI (by rfl) (TR.get 33 rfl).at_ rfl (pis_cons rfl (.inl rfl) (by rfl) hI (by rfl) (TR.get 34 rfl).at_ rfl (pis_cons rfl (.inl rfl) (by rfl) hI (by rfl) (TR.get 35 rfl).at_ rfl pis_nil)))) (pss_cons (ps_exb rfl (.inl rfl) (pis_cons rfl (.inl rfl) (by rfl) hI (by rfl) (TR.get 36 rfl).at_ rfl (pis_cons rfl (.inl rfl) (by rfl) hI (by rfl) (TR.get 37 rfl).at_ rfl (pis_cons rfl (.inl rfl) (by rfl) hI (by rfl) (TR.get 38 rfl).at_ rfl pis_nil)))) (pss_cons (ps_exb rfl (.inl rfl) (pis_cons rfl (.inl rfl) (by rfl) hI (by rfl) (TR.get 39 rfl).at_ rfl (pis_cons rfl (.inl rfl) (by rfl) hI (by rfl) (TR.get 40 rfl).at_ rfl (pis_cons rfl (.inl rfl) (by rfl) hI (by rfl) (TR.get 41 rfl).at_ rfl pis_nil)))) (pss_cons (ps_exb rfl (.inl rfl) (pis_cons rfl (.inl rfl) (by rfl) hI (by rfl) (TR.get 42 rfl).at_ rfl (pis_cons rfl (.inl rfl) (by rfl) hI (by rfl) (TR.get 43 rfl).at_ rfl (pis_cons rfl (.inl rfl) (by rfl) hI (by rfl) (TR.get 44 rfl).at_ rfl pis_nil)))) (pss_cons (ps_exb rfl (.inl rfl) (pis_cons rfl (.inl rfl) (by rfl) hI (by rfl) (TR.get 45 rfl).at_ rfl (pis_cons rfl (.inl rfl) (by rfl) hI (by rfl) (TR.get 46 rfl).at_ rfl (pis_cons rfl (.inl rfl) (by rfl) hI (by rfl) (TR.get 47 rfl).at_ rfl pis_nil)))) (pss_cons (ps_exb rfl (.inl rfl) (pis_cons rfl (.inl rfl) (by rfl) hI (by rfl) (TR.get 48 rfl).at_ rfl (pis_cons rfl (.inl rfl) (by rfl) hI (by rfl) (TR.get 49 rfl).at_ rfl (pis_cons rfl (.inl rfl) (by rfl) hI (by rfl) (TR.get 50 rfl).at_ rfl pis_nil)))) (pss_cons (ps_exb rfl (.inl rfl) (pis_cons rfl (.inl rfl) (by rfl) hI (by rfl) (TR.get 51 rfl).at_ rfl (pis_cons rfl (.inl rfl) (by rfl) hI (by rfl) (TR.get 52 rfl).at_ rfl (pis_cons rfl (.inl rfl) (by rfl) hI (by rfl) (TR.get 53 rfl).at_ rfl pis_nil)))) (pss_cons (ps_exb rfl (.inl rfl) (pis_cons rfl (.inl rfl) (by rfl) hI (by rfl) (TR.get 54 rfl).at_ rfl (pis_cons rfl (.inl rfl) (by rfl) hI (by rfl) (TR.get 55 rfl).at_ rfl (pis_cons rfl (.inl rfl) (by rfl) hI (by rfl) (TR.get 56 rfl).at_ rfl pis_nil)))) (pss_cons (ps_exb rfl (.inl rfl) (pis_cons rfl (.inl rfl) (by rfl) hI (by rfl) (TR.get 57 rfl).at_ rfl (pis_cons rfl (.inl rfl) (by rfl) hI (by rfl) (TR.get 58 rfl).at_ rfl pis_nil))) (pss_one (ps_ret (pv 1))))))))))))), ?_⟩
    refine ⟨Nat.zero_le _, fun l nl => ?_⟩
    have sub_kit : ∀ Es : List Addr, (∀ D ∈ Es, D ∈ dTwo Cs) → ∀ D ∈ Es, PySem.W.kitOne K (.ref C) (.ref D) = some (decide (C = D)) := fun Es h D hD => kit D (h D hD)
    refine ⟨l, a, C, d, fJ, v, H, [], rfl, rfl, same_new nl, nl, upd_same, T, TK, er, sub_kit _ (by simp [dTwo, List.range_succ]), (by simp), fun H0 s0 e0 => ?_⟩
    refine ⟨l, a, C, d, fJ, v, H, _, rfl, rfl, s0, nl, e0, T, TK, er, sub_kit _ (by simp [dTwo, List.range_succ]), (by simp), fun H1 s1 e1 => ?_⟩
    refine ⟨l, a, C, d, fJ, v, H, _, rfl, rfl, s1, nl, e1, T, TK, er, sub_kit _ (by simp [dTwo, List.range_succ]), (by simp), fun H2 s2 e2 => ?_⟩
    refine ⟨l, a, C, d, fJ, v, H, _, rfl, rfl, s2, nl, e2, T, TK, er, sub_kit _ (by simp [dTwo, List.range_succ]), (by simp), fun H3 s3 e3 => ?_⟩
    refine ⟨l, a, C, d, fJ, v, H, _, rfl, rfl, s3, nl, e3, T, TK, er, sub_kit _ (by simp [dTwo, List.range_succ]), (by simp), fun H4 s4 e4 => ?_⟩
    refine ⟨l, a, C, d, fJ, v, H, _, rfl, rfl, s4, nl, e4, T, TK, er, sub_kit _ (by simp [dTwo, List.range_succ]), (by simp), fun H5 s5 e5 => ?_⟩
    refine ⟨l, a, C, d, fJ, v, H, _, rfl, rfl, s5, nl, e5, T, TK, er, sub_kit _ (by simp [dTwo, List.range_succ]), (by simp), fun H6 s6 e6 => ?_⟩
    refine ⟨l, a, C, d, fJ, v, H, _, rfl, rfl, s6, nl, e6, T, TK, er, sub_kit _ (by simp [dTwo, List.range_succ]), (by simp), fun H7 s7 e7 => ?_⟩
    refine ⟨l, a, C, d, fJ, v, H, _, rfl, rfl, s7, nl, e7, T, TK, er, sub_kit _ (by simp [dTwo, List.range_succ]), (by simp), fun H8 s8 e8 => ?_⟩
    refine ⟨l, a, C, d, fJ, v, H, _, rfl, rfl, s8, nl, e8, T, TK, er, sub_kit _ (by simp [dTwo, List.range_succ]), (by simp), fun H9 s9 e9 => ?_⟩
    exact ⟨_, rfl, k l _ nl s9 e9⟩
end
end Kz
set_option Elab.async false
set_option linter.all false
set_option maxRecDepth 100000
set_option maxHeartbeats 8000000
namespace Kz
open PySem PySem.Spec PyProof.Rows L2 Lk
abbrev sRight : Stmt := top 70
section
variable {P : Program} {w : World} {K : PySem.W.Frag} {mg : Str → Option Value} {base : Heap} {f : Addr} {fd : FuncData}
/-! ### what values are made with -/
def okD (d : PyData) : Bool := d.showable && (decide (d.depth ≤ 50) && decide (d.shown.length ≤ 1000))
theorem okD_of {d : PyData} (h : okD d = true) : d.showable = true ∧ d.depth ≤ 50 ∧ d.shown.length ≤ sizeLine := by
  unfold okD at h
  simp only [Bool.and_eq_true, decide_eq_true_eq] at h
  refine ⟨h.1, h.2.1, ?_⟩
  rw [sizeLine_eq]
  omega
theorem odd_all : (odd1 ++ odd2).all (fun d => okD d && (okD (.tuple [d, .int 3]) && (okD (.list [d]) && okD (.dict [(.str "a", d)])))) = true := by decide +kernel
theorem odd_ok {d : PyData} (h : d ∈ odd1 ++ odd2) : okD d = true ∧ okD (.tuple [d, .int 3]) = true ∧ okD (.list [d]) = true ∧ okD (.dict [(.str "a", d)]) = true := by
  have := List.all_eq_true.mp odd_all d h
  simp only [Bool.and_eq_true] at this
  exact this
/-! ### lists of bools -/
theorem dp_bits {H : Hp} : ∀ bs : List Bool, DpAll K H (bs.map V.bl) (bs.map PyData.bool)
  | [] => .nil
  | b :: bs => .cons (.bl b) (dp_bits bs)
theorem bits_lay : ∀ bs : List Bool, PyData.canLayAll0 (bs.map PyData.bool) = true
  | [] => by simp [PyData.canLayAll0]
  | b :: bs => by simp [PyData.canLayAll0, PyData.canLay0, bits_lay bs]
theorem bits_depth : ∀ bs : List Bool, PyData.depthAll (bs.map PyData.bool) = 0
  | [] => by simp [PyData.depthAll]
  | b :: bs => by simp [PyData.depthAll, PyData.depth, bits_depth bs]
theorem bits_shaped (bs : List Bool) : SeqAt.shaped (.list (bs.map PyData.bool)) = true := by
  show (PyData.canLay0 (.list (bs.map PyData.bool)) && decide (PyData.depth (.list (bs.map PyData.bool)) ≤ 64)) = true
  simp [PyData.canLay0, PyData.depth, bits_lay, bits_depth]
theorem bits_eqAll : ∀ bs : List Bool, PyData.eqvAll (bs.map PyData.bool) (bs.map PyData.bool) = true
  | [] => by simp [PyData.eqvAll]
  | b :: bs => by simp [PyData.eqvAll, PyData.eqv, bits_eqAll bs]
theorem bits_eq (bs : List Bool) : PyData.eqv (.list (bs.map PyData.bool)) (.list (bs.map PyData.bool)) = true := by
  simp [PyData.eqv, bits_eqAll]
theorem d_all {Cs : List Addr} (hn : Cs.length = 59) : dOne Cs ++ dTwo Cs = Cs := ((as_range Cs hn).trans rfl).symm
theorem marks_eq {Cs : List Addr} (hn : Cs.length = 59) (nd : Cs.Nodup) {i : Nat} {C : Addr} (hi : Cs[i]? = some C) :
    ((dOne Cs).map fun D => decide (C = D)) ++ ((dTwo Cs).map fun D => decide (C = D)) = (List.range 59).map fun p => decide (V.int (i : Nat) = V.int (0 + (p : Nat))) := by
  rw [← List.map_append, d_all hn]
  obtain ⟨hl, hC⟩ := List.getElem?_eq_some_iff.mp hi
  refine List.ext_getElem (by simp [hn]) fun p h1 h2 => ?_
  simp only [List.getElem_map, List.getElem_range]
  have hp : p < Cs.length := by simpa using h1
  by_cases e : i = p
  · subst e
    rw [decide_eq_true hC.symm, decide_eq_true (by simp)]
  · rw [decide_eq_false, decide_eq_false]
    · intro z
      injection z with z
      omega
    · intro z
      exact e ((List.getElem_inj nd).mp (hC.trans z))
theorem iteB {A B : Prop} {c : Bool} (h : c = false) (hb : B) : if c = true then A else B := by
  rw [h]
  exact iteF hb
/-! ### _law_right -/
def spRight : Sp := fun vs H Q _ => ∃ (a : Addr) (N : Nat), vs = [.ref a] ∧ PotAt a N H ∧ N ≤ 100000 ∧ ∀ H', ExtP a H H' → PotAt a (N + 5) H' → Q (.bl true) H'
theorem scRight : FnScope ["pot", "value", "all_here", "at", "error", "whole", "place"] ["pot"] (defScope sRight) := ⟨rfl, rfl, rfl, by decide +kernel, rfl, by decide +kernel, by decide +kernel⟩
structure Rt (K : PySem.W.Frag) (mg : Str → Option Value) (fI L : Addr) (Cs : List Addr) : Prop where
  bl : Bl mg
  ek : ErK K fI
  low : ErRow K mg fI veMro "LotError" L
  rows : ErRows K mg fI (.ref L :: veMro) errNames Cs
  nd : Cs.Nodup
  nl : L ∉ Cs
theorem bootVE : bootBuiltins "ValueError" = some (.type "ValueError") := by decide +kernel
theorem ok_right {fI L f1 f2 f3 f4 f5 f6 : Addr} {fdI fd1 fd2 fd3 fd4 fd5 fd6 : FuncData} {Cs : List Addr} (F : Fun K "_law_right" "_law_right" sRight f fd) (R : Rt K mg fI L Cs)
    (FI : Fun K "__init__" "LotError.__init__" sInit fI fdI) (bI : Binds K fdI ["self", "value"] [])
    (F1 : Fun K "_law_take" "_law_take" sTake f1 fd1) (b1 : Binds K fd1 ["pot", "upto"] []) (m1 : mg "_law_take" = some (.ref f1))
    (F2 : Fun K "_law_of" "_law_of" sOf f2 fd2) (b2 : Binds K fd2 ["pot", "some"] []) (m2 : mg "_law_of" = some (.ref f2))
    (F3 : Fun K "_law_odd" "_law_odd" sOdd f3 fd3) (b3 : Binds K fd3 ["pot"] []) (m3 : mg "_law_odd" = some (.ref f3))
    (F4 : Fun K "_law_all_made" "_law_all_made" sMade f4 fd4) (b4 : Binds K fd4 ["value"] []) (m4 : mg "_law_all_made" = some (.ref f4))
    (F5 : Fun K "_law_marks_one" "_law_marks_one" sOne f5 fd5) (b5 : Binds K fd5 ["error"] []) (m5 : mg "_law_marks_one" = some (.ref f5))
    (F6 : Fun K "_law_marks_two" "_law_marks_two" sTwo f6 fd6) (b6 : Binds K fd6 ["error"] []) (m6 : mg "_law_marks_two" = some (.ref f6)) :
    FnG P w K mg base 4 f fd ["pot"] spRight := by
  have GI : FnOk P w K mg base CX0 1 fI fdI ["self", "value"] (spInitV K fI) := ok_init FI
  have G2 : FnOk P w K mg base CX0 2 f2 fd2 ["pot", "some"] spOf := ok_of F2 R.bl F1 b1 m1
  have G3 : FnOk P w K mg base CX0 3 f3 fd3 ["pot"] spOdd := ok_odd F3 R.bl F1 b1 m1 F2 b2 m2
  have G4 : FnOk P w K mg base CX0 3 f4 fd4 ["value"] (spMade K fI Cs) := ok_made F4 FI bI R.ek R.rows
  have G5 : FnOk P w K mg base CX0 1 f5 fd5 ["error"] (spMarks K (dOne Cs)) := ok_one F5 R.bl.isin R.rows
  have G6 : FnOk P w K mg base CX0 1 f6 fd6 ["error"] (spMarks K (dTwo Cs)) := ok_two F6 R.bl.isin R.rows
  have nCs : Cs.length = 59 := R.rows.length.symm
  refine FnG.of F scRight (fun vs H Q h => ?_) (fun cdv A outer s H vs Q hr hG h => ?_)
  · obtain ⟨a, N, rfl, _⟩ := h
    rfl
  · obtain ⟨a, N, rfl, hp, hN, k⟩ := h
    have nd := scRight.nd
    have hr2 : Room 2 _ := hr.mono (by decide)
    have hr1 : Room 1 _ := hr.mono (by decide)
    have hu := hr.units
    refine ⟨_, pss_cons (ps_set (i := 1) nd rfl (.inl rfl) (pe_call G2 hr2 rfl m2 F2.kp b2 .nil pass0 (pa_cons (pv 0) (pa_cons
        (pe_lstN (pa_cons (pe_call G3 hr (by rfl) m3 F3.kp b3 .nil pass0 (pa_cons (pv 0) pa_nil)) (pa_cons (pe_tup (pa_cons (pe_call G3 hr (by rfl) m3 F3.kp b3 .nil pass0 (pa_cons (pv 0) pa_nil)) (pa_cons pe_int pa_nil))) (pa_cons (pe_lstN (pa_cons (pe_call G3 hr (by rfl) m3 F3.kp b3 .nil pass0 (pa_cons (pv 0) pa_nil)) pa_nil))
          (pa_cons (pe_disp (pps_cons pe_str (pe_call G3 hr (by rfl) m3 F3.kp b3 .nil pass0 (pa_cons (pv 0) pa_nil)) pps_nil) rfl rfl (by simp) (by simp)) pa_nil))))) pa_nil))))
      (pss_cons (ps_set (i := 2) nd rfl (.inl rfl) (pe_call G4 hr rfl m4 F4.kp b4 .nil pass0 (pa_cons (pv 1) pa_nil)))
      (pss_cons (ps_for PassesOwn.never rfl (pi_enum (by rfl) R.bl.enum (pa_cons (pv 2) pa_nil)) (pg_tup rfl (pgs_cons (pg_name (i := 3) nd rfl (.inr rfl)) (pgs_cons (pg_name (i := 4) nd rfl (.inl rfl)) pgs_nil)))
        (pss_cons (ps_if (PW.pt (pw_or (pt_not (pt_val (pe_callB call_errIs (by rfl) R.bl.isin boot_isinstance (pa_cons (pv 4) (pa_cons (pe_glob (v := .ref L) (by rfl) R.low.at_ rfl) pa_nil)))))
            (pw_or (pt_not (pt_val (pe_callB call_errIs (by rfl) R.bl.isin boot_isinstance (pa_cons (pv 4) (pa_cons (pe_bltn (v := .ty "ValueError") (by rfl) R.bl.vErr bootVE rfl) pa_nil)))))
              (pw_or1 (pt_cmpR op_ne (pe_callB (call_reprD hG hu) (by rfl) R.bl.repr PyProof.Rows.boot_repr (pa_cons (pe_errV (pv 4)) pa_nil)) (pe_callB (call_reprD hG hu) (by rfl) R.bl.repr PyProof.Rows.boot_repr (pa_cons (pv 1) pa_nil)) (nomark _))))))
            (pss_one (ps_ret pe_bl)) pss_nil)
          (pss_one (ps_if (pt_cmpR (op_neD hu) (pe_op op_cat (pe_call G5 hr1 rfl m5 F5.kp b5 .nil pass0 (pa_cons (pv 4) pa_nil)) (pe_call G6 hr1 rfl m6 F6.kp b6 .nil pass0 (pa_cons (pv 4) pa_nil)))
              (pe_lc (own := [("place", 6)]) (g := gName 6) (tt := tYes) rfl nd (pi_range1 rfl R.bl.range (pa_cons (pe_callB call_len_seq (by rfl) R.bl.len PySem.boot_len (pa_cons (pv 2) pa_nil)) pa_nil)) (blkOk_by (N := ["pot", "value", "all_here", "at", "error", "whole", "place"]) (sc := defScope sRight) (by decide +kernel))
                (fun _ _ _ _ _ => pg_name (i := 6) nd rfl (Or.inl rfl)) (fun _ _ _ _ _ => pts_nil) (fun _ _ _ _ _ => pe_cmpR op_eq (pv 3) (pv 6) (nomark _))) (nomark _))
            (pss_one (ps_ret pe_bl)) pss_nil))))
      (pss_cons (ps_set (i := 5) nd rfl (.inl rfl) (pe_err R.low.er R.ek GI hr2 bI rfl R.low.at_ (pa_cons (pv 1) pa_nil)))
      (pss_cons (ps_if (PW.pt (pw_or (pt_cmpR op_ne (pe_callB (call_reprD hG hu) (by rfl) R.bl.repr PyProof.Rows.boot_repr (pa_cons (pe_errV (pv 5)) pa_nil)) (pe_callB (call_reprD hG hu) (by rfl) R.bl.repr PyProof.Rows.boot_repr (pa_cons (pv 1) pa_nil)) (nomark _))
            (pw_or1 (pt_not (pt_val (pe_callB call_errIs (by rfl) R.bl.isin boot_isinstance (pa_cons (pv 5) (pa_cons (pe_bltn (v := .ty "ValueError") (by rfl) R.bl.vErr bootVE rfl) pa_nil))))))))
          (pss_one (ps_ret pe_bl)) pss_nil)
      (pss_one (ps_ret (pe_not (pe_callB (cr_any rfl) (by rfl) R.bl.any boot_any (pa_cons (pe_op op_cat (pe_call G5 hr1 rfl m5 F5.kp b5 .nil pass0 (pa_cons (pv 5) pa_nil)) (pe_call G6 hr1 rfl m6 F6.kp b6 .nil pass0 (pa_cons (pv 5) pa_nil))) pa_nil))))))))), ?_⟩
    -- the value: one of four, of what _law_odd gives
    refine ⟨_, rfl, _, rfl, a, N, rfl, hp, by omega, fun v1 d1 H1 o1 x1 p1 w1 => ?_⟩
    refine ⟨_, rfl, a, N + 1, rfl, p1, by omega, fun v2 d2 H2 o2 x2 p2 w2 => ?_⟩
    refine ⟨few_ok rfl, fun t2 nt2 => ?_⟩
    have y2 : Same H2 (upd H2 t2 (.tup [v2, .int 3])) := same_new nt2
    refine ⟨_, rfl, a, N + 2, rfl, p2.same y2, by omega, fun v3 d3 H3 o3 x3 p3 w3 => ?_⟩
    refine ⟨few_ok rfl, fun t3 nt3 ns3 => ?_⟩
    have y3 : Same H3 (upd H3 t3 (.lst [v3])) := same_new nt3
    intro t4 nt4
    have y4 : Same (upd H3 t3 (.lst [v3])) (upd (upd H3 t3 (.lst [v3])) t4 (.dK [])) := same_new nt4
    have q4 := (p3.same y3).same y4
    have n4 : t4 ≠ a := fun z => (p3.same y3).ne (by rw [← z]; exact nt4)
    refine ⟨_, rfl, a, N + 3, rfl, q4, by omega, fun v4 d4 H5 o4 x4 p4 w4 => ?_⟩
    have e4 : H5 t4 = some (.dK []) := x4 _ _ n4 upd_same
    refine ⟨e4, [(.inr "a", v4)], rfl, by simp, ?_⟩
    have p5 : PotAt a (N + 4) (upd H5 t4 (.dK (mergeK [] [(.inr "a", v4)]))) := by
      obtain ⟨o, b, c, e, r⟩ := p4
      exact ⟨o, b, c, by rw [upd_ne n4.symm]; exact e, r⟩
    generalize hH6 : upd H5 t4 (.dK (mergeK [] [(.inr "a", v4)])) = H6 at p5
    have x5 : ExtP a (upd H3 t3 (.lst [v3])) H6 := fun b o nb e => by
      have nb4 : b ≠ t4 := ne_of_none e nt4
      rw [← hH6, upd_ne nb4]
      exact x4 b o nb (by rw [upd_ne nb4]; exact e)
    refine ⟨few_ok rfl, fun l nl nsl => ?_⟩
    have y6 : Same H6 (upd H6 l (.lst [v1, .ref t2, .ref t3, .ref t4])) := same_new nl
    generalize hH7 : upd H6 l (.lst [v1, .ref t2, .ref t3, .ref t4]) = H7 at y6
    have el : H7 l = some (.lst [v1, .ref t2, .ref t3, .ref t4]) := by rw [← hH7, upd_same]
    have nla : l ≠ a := fun z => p5.ne (by rw [← z]; exact nl)
    have ext2 : ExtP a H (upd H2 t2 (.tup [v2, .int 3])) := (x1.trans x2).trans (.of y2)
    have ext3 : ExtP a H (upd H3 t3 (.lst [v3])) := (ext2.trans x3).trans (.of y3)
    have ext7 : ExtP a H H7 := (ext3.trans x5).trans (.of y6)
    have c17 : ExtP a H1 H7 := ((((x2.trans (.of y2)).trans x3).trans (.of y3)).trans x5).trans (.of y6)
    have c27 : ExtP a (upd H2 t2 (.tup [v2, .int 3])) H7 := ((x3.trans (.of y3)).trans x5).trans (.of y6)
    have c37 : ExtP a (upd H3 t3 (.lst [v3])) H7 := x5.trans (.of y6)
    have n2 : t2 ≠ a := fun z => p2.ne (by rw [← z]; exact nt2)
    have n3 : t3 ≠ a := fun z => p3.ne (by rw [← z]; exact nt3)
    have free2 : H t2 = none := by
      cases q : H t2 with
      | none => rfl
      | some u =>
        have := (x1.trans x2) t2 u (fun z => p2.ne (by rw [← z]; exact nt2)) q
        rw [nt2] at this
        cases this
    have free3 : H t3 = none := by
      cases q : H t3 with
      | none => rfl
      | some u =>
        have := (ext2.trans x3) t3 u (fun z => p3.ne (by rw [← z]; exact nt3)) q
        rw [nt3] at this
        cases this
    have free4 : H t4 = none := by
      cases q : H t4 with
      | none => rfl
      | some u =>
        have := ext3 t4 u n4 q
        rw [nt4] at this
        cases this
    have ds : DWs (sub H H7) [v1, .ref t2, .ref t3, .ref t4] [d1, .tuple [d2, .int 3], .list [d3], .dict [(.str "a", d4)]] := by
      refine .cons (w1.same (sub_ext hp.ne c17)) (.cons (.tup (xs := [v2, .int 3]) ?_ (.cons ?_ (.cons (.int 3) .nil))) (.cons (.lst (xs := [v3]) ?_ ns3 (.cons ?_ .nil)) (.cons (.dic (kvs := [(.inr "a", v4)]) ?_ (.cons (k := .inr "a") ?_ .nil)) .nil)))
      · exact sub_of free2 (c27 _ _ n2 upd_same)
      · exact (w2.same (sub_lessP p1.ne x1)).same (sub_ext hp.ne (ExtP.trans (.of y2) c27))
      · exact sub_of free3 (c37 _ _ n3 upd_same)
      · exact (w3.same (sub_lessP (p2.same y2).ne ext2)).same (sub_ext hp.ne (ExtP.trans (.of y3) c37))
      · exact sub_of free4 (y6 _ _ (by rw [← hH6, upd_same]; rfl))
      · refine w4.same fun b o e => ?_
        obtain ⟨e0, e1⟩ := of_sub e
        have nb4 : b ≠ t4 := fun z => by rw [z, upd_same] at e0; cases e0
        have nba : b ≠ a := fun z => q4.ne (by rw [← z]; exact e0)
        rw [upd_ne nb4] at e0
        refine sub_of ?_ (y6 _ _ (by rw [← hH6, upd_ne nb4]; exact e1))
        cases q : H b with
        | none => rfl
        | some u =>
          rw [ext3 b u nba q] at e0
          cases e0
    have okd : ∀ d ∈ ([d1, .tuple [d2, .int 3], .list [d3], .dict [(.str "a", d4)]] : List PyData), okD d = true := by
      intro d hd
      simp only [List.mem_cons, List.not_mem_nil, or_false] at hd
      rcases hd with rfl | rfl | rfl | rfl
      · exact (odd_ok o1).1
      · exact (odd_ok o2).2.1
      · exact (odd_ok o3).2.2.1
      · exact (odd_ok o4).2.2.2
    have p7 := p5.same y6
    refine ⟨a, l, N + 4, _, rfl, p7, by omega, nla, el, by simp, by simp, fun i v H8 hv x8 p8 => ?_⟩
    obtain ⟨d, hd, dw7⟩ := ds.get' hv
    have dw : DW H8 v d := (dw7.same (sub_ext hp.ne x8)).same (sub_same _ _)
    obtain ⟨od1, od2, od3⟩ := okD_of (okd d (List.mem_of_getElem? hd))
    have ext8 : ExtP a H H8 := ext7.trans x8
    clear ds okd dw7
    -- all errors
    refine ⟨_, rfl, v, rfl, fun m as H9 ac => ?_⟩
    obtain ⟨s9, n9, e9, er9⟩ := ac
    have las : as.length = 59 := er9.length.symm.trans nCs
    refine ⟨_, rfl, m, as.map V.ref, rfl, SqL.of e9, ?_⟩
    refine for_it walk_enum (fun i σ H' => ∃ x y : Option V, σ = [some (.ref a), some v, some (.ref m), x, y, none, none] ∧ Same H9 H') ⟨none, none, rfl, Same.refl _⟩ (fun i σ H' _ ⟨_, _, _, s⟩ => SqL.of (s _ _ e9)) ?_ ?_
    · rintro i x σ H' H'' hi ⟨u1, u2, rfl, s10⟩ ⟨T, xi, xa, rfl, nT, rfl, e1, e2⟩
      cases Option.some.inj e1
      obtain ⟨ea, hea, rfl⟩ : ∃ ea, as[i]? = some ea ∧ xa = V.ref ea := by
        have e3 : (as.map V.ref)[i]? = some xa := e2
        rw [List.getElem?_map] at e3
        cases q : as[i]? with
        | none => rw [q] at e3; cases e3
        | some ea => rw [q] at e3; exact ⟨ea, rfl, (Option.some.inj e3).symm⟩
      obtain ⟨C, dE, hC, er⟩ := er9.get hea
      obtain ⟨nmC, row⟩ := R.rows.mem (List.mem_of_getElem? hC)
      have s11 : Same H9 (upd H' T (.tup [.int (i : Nat), .ref ea])) := s10.trans (same_new nT)
      have eT : upd H' T (.tup [.int (i : Nat), .ref ea]) T = some (.tup [.int (i : Nat), .ref ea]) := upd_same
      generalize upd H' T (.tup [.int (i : Nat), .ref ea]) = H11 at s11 eT
      have er11 := er.same s11
      have dw11 : DW H11 v d := dw.same (s9.trans s11)
      have kitL : PySem.W.kitOne K (.ref C) (.ref L) = some true := by
        rw [row.kit R.low]
        simp
      have kitV : PySem.W.kitOne K (.ref C) (.type "ValueError") = some true := by
        rw [row.kitT "ValueError" (by decide +kernel)]
        simp
      have kits : ∀ D ∈ Cs, PySem.W.kitOne K (.ref C) (.ref D) = some (decide (C = D)) := by
        intro D hD
        obtain ⟨nmD, rowD⟩ := R.rows.mem hD
        have nLD : ¬ D = L := fun z => R.nl (z ▸ hD)
        rw [row.kit rowD]
        have e1 : ((Value.ref D == Value.ref C) : Bool) = decide (C = D) := by
          by_cases z : C = D
          · subst z; simp
          · rw [decide_eq_false z]
            simp
            exact fun y => z y.symm
        have e2 : ((Value.ref D == Value.ref L) : Bool) = false := by simp [nLD]
        show some ((Value.ref D == Value.ref C) || ((Value.ref D == Value.ref L) || _)) = _
        rw [e1, e2]
        simp
      have bits : ((dOne Cs).map fun D => decide (C = D)) ++ ((dTwo Cs).map fun D => decide (C = D)) = (List.range 59).map fun p => decide (V.int (i : Nat) = V.int (0 + (p : Nat))) := marks_eq nCs R.nd hC
      have inOne : ∀ D ∈ dOne Cs, D ∈ Cs := fun D h => by rw [← d_all nCs]; exact List.mem_append_left _ h
      have inTwo : ∀ D ∈ dTwo Cs, D ∈ Cs := fun D h => by rw [← d_all nCs]; exact List.mem_append_right _ h
      have lOne : (dOne Cs).length = 30 := by simp [dOne]
      have lTwo : (dTwo Cs).length = 29 := by simp [dTwo]
      refine ⟨T, [.int (i : Nat), .ref ea], rfl, SqT.of eT, rfl, _, _, rfl, _, _, rfl, rfl, ?_⟩
      -- not isinstance(error, LotError) or not isinstance(error, ValueError) or repr(error.value) != repr(value)
      refine ⟨_, rfl, ea, C, dE, fI, v, _, _, true, rfl, row.er, R.ek, er11, .own L, kitL, true, rfl, iteF ?_⟩
      refine ⟨_, rfl, ea, C, dE, fI, v, _, _, true, rfl, row.er, R.ek, er11, .ty "ValueError", kitV, true, rfl, iteF ?_⟩
      refine ⟨_, rfl, ea, C, dE, v, fI, rfl, row.er, er11, v, d, rfl, dw11, od1, od2, od3, _, rfl, v, d, rfl, dw11, od1, od2, od3, rfl, _, rfl, iteB (by simp) ?_⟩
      -- the marks
      refine ⟨_, rfl, ea, C, dE, fI, v, rfl, row.er, R.ek, er11, fun D h => kits D (inOne D h), fun l1 H12 nl1 s12 el1 => ?_⟩
      refine ⟨_, rfl, ea, C, dE, fI, v, rfl, row.er, R.ek, er11.same s12, fun D h => kits D (inTwo D h), fun l2 H13 nl2 s13 el2 => ?_⟩
      refine ⟨l1, l2, _, _, rfl, rfl, s13 _ _ el1, el2, by rw [List.length_map, List.length_map, List.length_map, List.length_map, lOne, lTwo, sizeLine_eq]; decide, fun l3 nl3 => ?_⟩
      have s14 : Same H13 (upd H13 l3 _) := same_new (o := .lst ((((dOne Cs).map fun D => decide (C = D)).map V.bl) ++ (((dTwo Cs).map fun D => decide (C = D)).map V.bl))) nl3
      have sAll : Same H9 (upd H13 l3 _) := ((s11.trans s12).trans s13).trans s14
      refine ⟨_, rfl, m, as.map V.ref, rfl, .inl (SqL.of (sAll _ _ e9)), _, rfl, by rw [List.length_map, las]; decide, by rw [List.length_map, las]; decide, fun l4 nl4 => ?_⟩
      refine lc_range (fun q Hq => Same (upd H13 l3 _) Hq ∧ Hq l4 = some (.lst ((List.range q).map fun p => V.bl (decide (V.int (i : Nat) = V.int (0 + (p : Nat))))))) ⟨same_new nl4, upd_same⟩ ?_ ?_
      · rintro q Hq hq ⟨sq, eq⟩
        refine ⟨rfl, ?_⟩
        unfold tYes
        refine iteT ?_
        refine ⟨_, rfl, _, rfl, rfl, _, eq, ?_, fun b o e => ?_, ?_⟩
        · rw [List.length_map, List.length_range, sizeLine_eq]
          rw [List.length_map, las] at hq
          have : q < 59 := hq
          omega
        · have nb := ne_of_none e nl4
          rw [upd_ne nb]
          exact sq b o e
        · rw [upd_same, List.range_succ, List.map_append]
          rfl
      · rintro Hq ⟨sq, eq⟩
        rw [List.length_map, las] at eq
        have e59 : ((59 : Nat) : Int).toNat = 59 := rfl
        rw [e59] at eq
        have el3 : Hq l3 = some (.lst ((((dOne Cs).map fun D => decide (C = D)) ++ ((dTwo Cs).map fun D => decide (C = D))).map V.bl)) := by
          rw [List.map_append]
          exact sq _ _ upd_same
        have el4 : Hq l4 = some (.lst ((((dOne Cs).map fun D => decide (C = D)) ++ ((dTwo Cs).map fun D => decide (C = D))).map V.bl)) := by
          rw [bits, List.map_map]
          exact eq
        refine ⟨_, _, .lst (SqL.of el3) (dp_bits _), .lst (SqL.of el4) (dp_bits _), bits_shaped _, bits_shaped _, _, rfl, iteB (by rw [bits_eq]; rfl) ?_⟩
        exact ⟨_, _, rfl, sAll.trans sq⟩
    · rintro σ H' ⟨u1, u2, rfl, s10⟩
      have kitV : PySem.W.kitOne K (.ref L) (.type "ValueError") = some true := by
        rw [R.low.kitT "ValueError" (by decide +kernel)]
        simp
      have kits : ∀ D ∈ Cs, PySem.W.kitOne K (.ref L) (.ref D) = some (decide (L = D)) := by
        intro D hD
        obtain ⟨nmD, rowD⟩ := R.rows.mem hD
        have nLD : ¬ L = D := fun z => R.nl (z ▸ hD)
        rw [R.low.kit rowD, decide_eq_false nLD]
        have nDL : ¬ D = L := fun z => nLD z.symm
        have e2 : ((Value.ref D == Value.ref L) : Bool) = false := by simp [nDL]
        show some ((Value.ref D == Value.ref L) || _) = _
        rw [e2]
        simp
      have inOne : ∀ D ∈ dOne Cs, D ∈ Cs := fun D h => by rw [← d_all nCs]; exact List.mem_append_left _ h
      have inTwo : ∀ D ∈ dTwo Cs, D ∈ Cs := fun D h => by rw [← d_all nCs]; exact List.mem_append_right _ h
      have lOne : (dOne Cs).length = 30 := by simp [dOne]
      have lTwo : (dTwo Cs).length = 29 := by simp [dTwo]
      have none_of : ∀ Ds : List Addr, (∀ D ∈ Ds, D ∈ Cs) → (Ds.map fun D => decide (L = D)).any id = false := by
        intro Ds h
        rw [List.any_eq_false]
        intro b hb
        obtain ⟨D, hD, rfl⟩ := List.mem_map.mp hb
        have nLD : ¬ L = D := fun z => R.nl (z ▸ h D hD)
        simp [nLD]
      -- whole = LotError(value)
      refine ⟨_, rfl, v, rfl, fun ew dW H11 _ _ s11 er => ?_⟩
      have s9' : Same H8 H11 := (s9.trans s10).trans s11
      have dw11 : DW H11 v d := dw.same s9'
      refine ⟨_, rfl, ew, L, dW, v, fI, rfl, R.low.er, er, v, d, rfl, dw11, od1, od2, od3, _, rfl, v, d, rfl, dw11, od1, od2, od3, rfl, _, rfl, iteB (by simp) ?_⟩
      refine ⟨_, rfl, ew, L, dW, fI, v, _, _, true, rfl, R.low.er, R.ek, er, .ty "ValueError", kitV, true, rfl, iteF ?_⟩
      -- not any(the marks)
      refine ⟨_, rfl, ew, L, dW, fI, v, rfl, R.low.er, R.ek, er, fun D h => kits D (inOne D h), fun l1 H12 nl1 s12 el1 => ?_⟩
      refine ⟨_, rfl, ew, L, dW, fI, v, rfl, R.low.er, R.ek, er.same s12, fun D h => kits D (inTwo D h), fun l2 H13 nl2 s13 el2 => ?_⟩
      refine ⟨l1, l2, _, _, rfl, rfl, s13 _ _ el1, el2, by rw [List.length_map, List.length_map, List.length_map, List.length_map, lOne, lTwo, sizeLine_eq]; decide, fun l3 nl3 => ?_⟩
      have s14 : Same H13 (upd H13 l3 _) := same_new (o := .lst ((((dOne Cs).map fun D => decide (L = D)).map V.bl) ++ (((dTwo Cs).map fun D => decide (L = D)).map V.bl))) nl3
      refine ⟨l3, ((dOne Cs).map fun D => decide (L = D)) ++ ((dTwo Cs).map fun D => decide (L = D)), rfl, SqL.of (by rw [upd_same, List.map_append]), _, rfl, ?_⟩
      rw [List.any_append, none_of _ inOne, none_of _ inTwo]
      have sAll : Same H8 (upd H13 l3 _) := ((s9'.trans s12).trans s13).trans s14
      exact k _ (ext8.trans (.of sAll)) (p8.same sAll)
end
end Kz
set_option Elab.async false
set_option linter.all false
set_option maxRecDepth 100000
set_option maxHeartbeats 8000000
namespace Kz
open PySem PySem.Spec PyProof.Rows L2 Lk
abbrev sLaw : Stmt := top 71
section
variable {P : Program} {w : World} {K : PySem.W.Frag} {mg : Str → Option Value} {base : Heap} {f : Addr} {fd : FuncData}
def spLaw (K : PySem.W.Frag) : Sp := fun vs H Q _ => ∃ (a : Addr) (ns : List Int), vs = [.ref a] ∧ SqL K H a (ns.map V.int) ∧ ns.length ≤ 63 ∧ ∀ H', Q (.bl true) H'
theorem scLaw : FnScope ["script", "place", "pot", "lap"] ["script"] (defScope sLaw) := ⟨rfl, rfl, rfl, by decide +kernel, rfl, by decide +kernel, by decide +kernel⟩
theorem ok_law {fR fC fP : Addr} {fdR fdC fdP : FuncData} (F : Fun K "law" "law" sLaw f fd) (T : Bl mg)
    (GR : FnG P w K mg base 4 fR fdR ["pot"] spRight) (kR : PySem.W.keepIn K (.ref fR) = true) (bR : Binds K fdR ["pot"] []) (mR : mg "_law_right" = some (.ref fR))
    (FC : Fun K "_law_cells" "_law_cells" sCells fC fdC) (bC : Binds K fdC ["script", "limit"] []) (mC : mg "_law_cells" = some (.ref fC))
    (FP : Fun K "_law_pot" "_law_pot" sPot fP fdP) (bP : Binds K fdP ["script", "place"] []) (mP : mg "_law_pot" = some (.ref fP)) :
    FnG P w K mg base 5 f fd ["script"] (spLaw K) := by
  have GC : FnOk P w K mg base CX0 1 fC fdC ["script", "limit"] (spCells K) := ok_cells FC T
  have GP : FnOk P w K mg base CX0 1 fP fdP ["script", "place"] (spPot K) := ok_pot FP T
  refine FnG.of F scLaw (fun vs H Q h => ?_) (fun cdv A outer s H vs Q hr hG h => ?_)
  · obtain ⟨a, ns, rfl, _⟩ := h
    rfl
  · obtain ⟨a, ns, rfl, hs, hl, k⟩ := h
    have nd := scLaw.nd
    have hr1 : Room 1 _ := hr.mono (by decide)
    refine ⟨_, pss_cons (ps_for PassesOwn.never rfl (pi_list (pe_call GC hr1 (by rfl) mC FC.kp bC .nil pass0 (pa_cons (pv 0) (pa_cons pe_int pa_nil)))) (pg_name (i := 1) nd rfl (.inl rfl))
        (pss_cons (ps_set (i := 2) nd rfl (.inr rfl) (pe_call GP hr1 (by rfl) mP FP.kp bP .nil pass0 (pa_cons (pv 0) (pa_cons (pv 1) pa_nil))))
          (pss_one (ps_if (pt_not (pt_val (pe_callB (cr_all rfl) (by rfl) T.all boot_all (pa_cons (pe_lc (own := [("lap", 3)]) (g := gName 3) (tt := tYes) rfl nd (pi_range1 (by rfl) T.range (pa_cons pe_int pa_nil))
              (blkOk_by (N := ["script", "place", "pot", "lap"]) (sc := defScope sLaw) (by decide +kernel)) (fun _ _ _ _ _ => pg_name (i := 3) nd rfl (Or.inl rfl)) (fun _ _ _ _ _ => pts_nil)
              (fun _ _ _ _ _ => pe_gcall GR hr hG (by rfl) mR kR bR (pa_cons (pv 2) pa_nil))) pa_nil)))) (pss_one (ps_ret pe_bl)) pss_nil))))
      (pss_one (ps_ret pe_bl)), ?_⟩
    refine ⟨_, rfl, a, ns, 3, rfl, hs, hl, by decide, by decide, fun l n hn nl => ?_⟩
    refine ⟨l, rfl, ⟨_, SqL.of upd_same⟩, ?_⟩
    have sl : Same H (upd H l (.lst (rgV 0 (n : Int)))) := same_new nl
    refine for_list (K := K) (a := l) (xs := rgV 0 (n : Int)) (fun i σ H' => ∃ x y : Option V, σ = [some (.ref a), x, y, none] ∧ Same (upd H l (.lst (rgV 0 (n : Int)))) H')
      ⟨none, none, rfl, Same.refl _⟩ (fun i σ H' _ ⟨_, _, _, s⟩ => SqL.of (s _ _ upd_same)) ?_ ?_
    · rintro i x σ H' hx ⟨u1, u2, rfl, s1⟩
      obtain ⟨hi, rfl⟩ : i < n ∧ x = V.int (0 + (i : Nat)) := by
        unfold rgV at hx
        rw [List.getElem?_map] at hx
        cases q : (List.range ((n : Int) - 0).toNat)[i]? with
        | none => rw [q] at hx; cases hx
        | some j =>
          rw [q] at hx
          obtain ⟨h1, h2⟩ := List.getElem?_eq_some_iff.mp q
          rw [List.length_range] at h1
          rw [List.getElem_range] at h2
          subst h2
          exact ⟨by omega, (Option.some.inj hx).symm⟩
      refine ⟨_, rfl, _, rfl, a, ns, _, rfl, s1.seq (sl.seq hs), hl, by omega, by omega, fun p H1 np s2 hp => ?_⟩
      refine ⟨3, rfl, by decide, by decide, fun D nD => ?_⟩
      have nDp : D ≠ p := fun z => hp.ne (by rw [← z]; exact nD)
      refine lc_range (fun q Hq => ExtP p H1 Hq ∧ PotAt p (5 * q) Hq ∧ Hq D = some (.lst (List.replicate q (V.bl true)))) ⟨.of (same_new nD), hp.same (same_new nD), upd_same⟩ ?_ ?_
      · rintro q Hq hq ⟨xq, pq, eq⟩
        have hq3 : q < 3 := hq
        refine ⟨rfl, ?_⟩
        unfold tYes
        refine iteT ?_
        refine ⟨_, rfl, p, 5 * q, rfl, pq, by omega, fun H2 x2 p2 => ?_⟩
        have e2 := x2 D _ nDp eq
        refine ⟨_, e2, by rw [List.length_replicate, sizeLine_eq]; omega, fun b o nb e => ?_, ?_, ?_⟩
        · have nbD := ne_of_none e nD
          rw [upd_ne nbD]
          exact (xq.trans x2) b o nb e
        · obtain ⟨o, b, c, e, r⟩ := p2
          exact ⟨o, b, c, by rw [upd_ne nDp.symm]; exact e, r⟩
        · rw [upd_same, List.replicate_succ']
      · rintro Hq ⟨xq, pq, eq⟩
        have eq3 : Hq D = some (.lst (([true, true, true] : List Bool).map V.bl)) := eq
        refine ⟨D, [true, true, true], rfl, SqL.of eq3, true, rfl, iteF ?_⟩
        refine ⟨_, _, rfl, fun b o e => ?_⟩
        have e' := s1 b o e
        exact xq b o (ne_of_none e' np) (s2 b o e')
    · rintro σ H' ⟨u1, u2, rfl, s1⟩
      exact k _
end
end Kz
set_option Elab.async false
set_option linter.all false
set_option maxRecDepth 100000
set_option maxHeartbeats 0
namespace Kz
open PySem PySem.Spec PyProof.Rows L2 Lk
/-! ### the head: what is looked at behind the top -/
def nxtO (o : Obj) : List Addr := match o.data with
  | .cls cd => [cd.ns]
  | .func fd => He.refV fd.code
  | _ => []
def nxtD (o : Obj) : List Addr := match o.data with
  | .dict es _ => es.toList.flatMap fun e => He.refV e.val
  | _ => []
def step1 (n : Obj → List Addr) (g : Addr → Option Obj) (as : List Addr) : List Addr := as.flatMap fun a => match g a with
  | some o => n o
  | none => []
def as1 (g : Addr → Option Obj) : List Addr := step1 nxtD g [mainGlobals]
def as2 (g : Addr → Option Obj) : List Addr := step1 nxtO g (as1 g)
def as3 (g : Addr → Option Obj) : List Addr := step1 nxtD g (as2 g)
def as4 (g : Addr → Option Obj) : List Addr := step1 nxtO g (as3 g)
def asK (g : Addr → Option Obj) : List Addr := mainGlobals :: (as1 g ++ (as2 g ++ (as3 g ++ as4 g)))
def lowA (K : PySem.W.Frag) : Addr := He.ga K "LotError"
def iniA (K : PySem.W.Frag) : Addr := He.ma K (lowA K) "__init__"
def slB (sl : List (Option Value)) : Bool := match sl with
  | [_, _, _, _, some (.builtin i), _] => decide (i = "ValueError.__new__")
  | _ => false
theorem slB_ok {sl : List (Option Value)} (h : slB sl = true) : ∃ m0 m1 m2 m3 m5, sl = [m0, m1, m2, m3, some (.builtin "ValueError.__new__"), m5] := by
  unfold slB at h
  split at h
  · obtain rfl := of_decide_eq_true h
    exact ⟨_, _, _, _, _, rfl⟩
  · cases h
def clsB (K : PySem.W.Frag) (C : Addr) (ms : List Value) : Bool := match K.lookup C with
  | some ⟨.type c, _, .cls cd, sl⟩ => decide (c = "type") && ((cd.mro == .ref C :: ms) && (cd.hasDict && (!cd.hasDel && slB sl.toList)))
  | _ => false
def rowB (K : PySem.W.Frag) (ms : List Value) (x : Str) : Bool :=
  He.eqO (PySem.W.nsIn K mainGlobals x) (some (some (.ref (He.ga K x)))) && (clsB K (He.ga K x) ms && (He.eqO (PySem.W.findIn K (.ref (He.ga K x)) "__setattr__") (some (some (.builtin "object.__setattr__")))
    && (He.eqO (PySem.W.findIn K (.ref (He.ga K x)) "__getattribute__") (some (some (.builtin "BaseException.__getattribute__"))) && (He.eqO (PySem.W.findIn K (.ref (He.ga K x)) "__getattr__") (some none)
    && (He.eqO (PySem.W.findIn K (.ref (He.ga K x)) "value") (some none) && (He.eqO (PySem.W.findIn K (.ref (He.ga K x)) "__init__") (some (some (.ref (iniA K))))
    && (He.eqO (PySem.W.findIn K (.ref (He.ga K x)) "__class__") (some (some (.builtin "object.__class__"))) && PySem.W.keepIn K (.ref (He.ga K x)))))))))
def exB (K : PySem.W.Frag) : Bool :=
  rowB K veMro "LotError" && (errNames.all (rowB K (.ref (lowA K) :: veMro)) && (decide (errNames.map (He.ga K)).Nodup && (!(errNames.map (He.ga K)).contains (lowA K)
    && (PySem.W.isFn K (.ref (iniA K)) && (He.eqO (PySem.W.specialIn K (.builtin "object.__class__") "__get__") (some (some (.builtin "getset_descriptor.__get__"))) && decide (PySem.W.takesIn K (.builtin "object.__class__") = some true))))))
theorem clsB_ok {K : PySem.W.Frag} {C : Addr} {ms : List Value} (h : clsB K C ms = true) :
    ∃ nm q N bs sn su ab col dd m0 m1 m2 m3 m5, K.lookup C = some (excClassObj nm q C N bs ms true sn su ab col dd m0 m1 m2 m3 m5 "ValueError.__new__") := by
  unfold clsB at h
  cases z : K.lookup C with
  | none =>
    rw [z] at h
    cases h
  | some o =>
    obtain ⟨oc, od, dt, sl⟩ := o
    rw [z] at h
    cases oc with
    | type c =>
      cases dt with
      | cls cd =>
        obtain ⟨h1, h⟩ := He.ba h
        obtain ⟨h2, h⟩ := He.ba h
        obtain ⟨h3, h⟩ := He.ba h
        obtain ⟨h4, h5⟩ := He.ba h
        obtain ⟨nm, bs, mro, N, q, hdct, sn, su, ab, col, hdel⟩ := cd
        have e1 : c = "type" := of_decide_eq_true h1
        have e2 : mro = .ref C :: ms := beq_iff_eq.mp h2
        have e3 : hdct = true := h3
        have e4 : hdel = false := by simpa using h4
        subst e1 e2 e3 e4
        obtain ⟨sl⟩ := sl
        obtain ⟨m0, m1, m2, m3, m5, e5⟩ := slB_ok (show slB sl = true from h5)
        subst e5
        exact ⟨_, _, _, _, _, _, _, _, _, _, _, _, _, _, rfl⟩
      | _ => cases h
    | _ => cases dt <;> cases h
theorem rowB_ok {K : PySem.W.Frag} {h : Heap} {mg : Str → Option Value} (X : K.In h) (G : h.Ns mainGlobals mg) {x : Str} {ms : List Value} (hms : PySem.HandSPX.refsVE ms = true) (c : rowB K ms x = true) : ErRow K mg (iniA K) ms x (He.ga K x) := by
  obtain ⟨c1, c⟩ := He.ba c
  obtain ⟨c2, c⟩ := He.ba c
  obtain ⟨c3, c⟩ := He.ba c
  obtain ⟨c4, c⟩ := He.ba c
  obtain ⟨c5, c⟩ := He.ba c
  obtain ⟨c6, c⟩ := He.ba c
  obtain ⟨c7, c⟩ := He.ba c
  obtain ⟨c8, c9⟩ := He.ba c
  obtain ⟨nm, q, N, bs, sn, su, ab, col, dd, m0, m1, m2, m3, m5, xL⟩ := clsB_ok c2
  exact erRow_mk X G (He.eqO_ok c1) xL hms (He.eqO_ok c3) (He.eqO_ok c4) (He.eqO_ok c5) (He.eqO_ok c6) (He.eqO_ok c7) (He.eqO_ok c8) c9
theorem rowsB_ok {K : PySem.W.Frag} {h : Heap} {mg : Str → Option Value} (X : K.In h) (G : h.Ns mainGlobals mg) {ms : List Value} (hms : PySem.HandSPX.refsVE ms = true) :
    ∀ xs : List Str, xs.all (rowB K ms) = true → ErRows K mg (iniA K) ms xs (xs.map (He.ga K))
  | [], _ => .nil
  | x :: xs, c => by
    obtain ⟨c1, c2⟩ := He.ba (show (rowB K ms x && xs.all (rowB K ms)) = true from c)
    exact .cons (rowB_ok X G hms c1) (rowsB_ok X G hms xs c2)
theorem rt_of {K : PySem.W.Frag} {h : Heap} {mg : Str → Option Value} (X : K.In h) (G : h.Ns mainGlobals mg) (T : Bl mg) (c : exB K = true) : Rt K mg (iniA K) (lowA K) (errNames.map (He.ga K)) := by
  obtain ⟨c1, c⟩ := He.ba c
  obtain ⟨c2, c⟩ := He.ba c
  obtain ⟨c3, c⟩ := He.ba c
  obtain ⟨c4, c⟩ := He.ba c
  obtain ⟨c5, c⟩ := He.ba c
  obtain ⟨c6, c7⟩ := He.ba c
  have nl : lowA K ∉ errNames.map (He.ga K) := by
    intro m
    have m2 : (errNames.map (He.ga K)).contains (lowA K) = true := List.contains_iff_mem.mpr m
    rw [m2] at c4
    cases c4
  exact ⟨T, ⟨beq_iff_eq.mp c5, He.eqO_ok c6, of_decide_eq_true c7⟩, rowB_ok X G (by decide +kernel) c1, rowsB_ok X G (ms := .ref (lowA K) :: veMro) (show PySem.HandSPX.refsVE veMro = true by decide +kernel) _ c2, of_decide_eq_true c3, nl⟩
def dI : He.DefD := ⟨("LotError", some "__init__"), "__init__", "LotError.__init__", defArgs sInit, defBody sInit, defScope sInit, [], []⟩
def dP : He.DefD := ⟨("_law_pot", none), "_law_pot", "_law_pot", defArgs sPot, defBody sPot, defScope sPot, [], []⟩
def dT : He.DefD := ⟨("_law_take", none), "_law_take", "_law_take", defArgs sTake, defBody sTake, defScope sTake, [], []⟩
def dO : He.DefD := ⟨("_law_of", none), "_law_of", "_law_of", defArgs sOf, defBody sOf, defScope sOf, [], []⟩
def dC : He.DefD := ⟨("_law_cells", none), "_law_cells", "_law_cells", defArgs sCells, defBody sCells, defScope sCells, [], []⟩
def dD : He.DefD := ⟨("_law_odd", none), "_law_odd", "_law_odd", defArgs sOdd, defBody sOdd, defScope sOdd, [], []⟩
def dM : He.DefD := ⟨("_law_all_made", none), "_law_all_made", "_law_all_made", defArgs sMade, defBody sMade, defScope sMade, [], []⟩
def dA : He.DefD := ⟨("_law_marks_one", none), "_law_marks_one", "_law_marks_one", defArgs sOne, defBody sOne, defScope sOne, [], []⟩
def dB : He.DefD := ⟨("_law_marks_two", none), "_law_marks_two", "_law_marks_two", defArgs sTwo, defBody sTwo, defScope sTwo, [], []⟩
def dR : He.DefD := ⟨("_law_right", none), "_law_right", "_law_right", defArgs sRight, defBody sRight, defScope sRight, [], []⟩
def dL : He.DefD := ⟨("law", none), "law", "law", defArgs sLaw, defBody sLaw, defScope sLaw, [], []⟩
def fn : List He.DefD := [dI, dP, dT, dO, dC, dD, dM, dA, dB, dR, dL]
def fa : List He.Fa := [.glo "_law_pot", .glo "_law_take", .glo "_law_of", .glo "_law_cells", .glo "_law_odd", .glo "_law_all_made", .glo "_law_marks_one", .glo "_law_marks_two", .glo "_law_right", .glo "law", .free "int", .free "abs", .free "len", .free "list", .free "range", .free "max", .free "min", .free "all", .free "any", .free "repr", .free "isinstance", .free "enumerate", .free "ValueError"]
def obF (K : PySem.W.Frag) : He.AlD × Bool := (He.obsD fa fn K, exB K)
def obK (g : Addr → Option Obj) : He.AlD × Bool := obF (He.frG g (asK g))
def hk : PySem.W.Hook where
  α := He.AlD × Bool
  obs := fun s => obK s.heap.get?
  val := fun _ => (He.valD fn, true)
  says := fun _ h => ∃ K : PySem.W.Frag, K.In h ∧ obF K = (He.valD fn, true)
  of := fun _ _ e => ⟨_, He.frG_in, e⟩
  keeps := fun _ _ _ ⟨K, hK, c⟩ k => ⟨K, PySem.W.Frag.In.keeps hK k, c⟩
theorem fun_of {K : PySem.W.Frag} {x q : Str} {st : Stmt} {f : Addr} {fd : FuncData} (F : FunD K x q (defArgs st) (defBody st) (defScope st) [] [] f fd) : Fun K x q st f fd := by
  obtain ⟨⟨oc, od, dV, kV, doc, pm, an, cdv, ct, osl, e, lk, hcd, hd, _⟩, kp⟩ := F
  rcases hd with ⟨_, rfl⟩ | ⟨h, _⟩
  · exact ⟨⟨oc, od, kV, doc, pm, an, cdv, ct, osl, e, lk, hcd⟩, kp⟩
  · exact absurd rfl h
theorem facts {P : Program} {w : World} {K : PySem.W.Frag} {h : Heap} {mg : Str → Option Value} {f : Addr} (X : K.In h) (G : h.Ns mainGlobals mg) (hfa : mg ("law" : Str) = some (.ref f)) (c : obF K = (He.valD fn, true)) :
    ∃ fd : FuncData, (∀ (s : Shared) (v : Value), BindsTo s fd ⟨[v], []⟩ [("script", v)]) ∧ ∀ base : Heap, K.In base → base.Ns mainGlobals mg → FnG P w K mg base 5 f fd ["script"] (spLaw K) := by
  have cD : He.SaysD fa fn K := congrArg (fun z : He.AlD × Bool => z.1) c
  have cE : exB K = true := congrArg (fun z : He.AlD × Bool => z.2) c
  obtain ⟨fdI, DI⟩ := cD.def_ 0 (d := dI) rfl
  have bI := FunD.bindsN (ps := ["self", "value"]) DI fun _ _ _ _ _ _ us hl => match us, hl with | [_, _], _ => rfl
  have FI : Fun K "__init__" "LotError.__init__" sInit (He.fAd K dI.at_) fdI := fun_of DI
  obtain ⟨fdP, DP⟩ := cD.def_ 1 (d := dP) rfl
  have bP := FunD.bindsN (ps := ["script", "place"]) DP fun _ _ _ _ _ _ us hl => match us, hl with | [_, _], _ => rfl
  have FP : Fun K "_law_pot" "_law_pot" sPot (He.fAd K dP.at_) fdP := fun_of DP
  obtain ⟨fdT, DT⟩ := cD.def_ 2 (d := dT) rfl
  have bT := FunD.bindsN (ps := ["pot", "upto"]) DT fun _ _ _ _ _ _ us hl => match us, hl with | [_, _], _ => rfl
  have FT : Fun K "_law_take" "_law_take" sTake (He.fAd K dT.at_) fdT := fun_of DT
  obtain ⟨fdO, DO⟩ := cD.def_ 3 (d := dO) rfl
  have bO := FunD.bindsN (ps := ["pot", "some"]) DO fun _ _ _ _ _ _ us hl => match us, hl with | [_, _], _ => rfl
  have FO : Fun K "_law_of" "_law_of" sOf (He.fAd K dO.at_) fdO := fun_of DO
  obtain ⟨fdC, DC⟩ := cD.def_ 4 (d := dC) rfl
  have bC := FunD.bindsN (ps := ["script", "limit"]) DC fun _ _ _ _ _ _ us hl => match us, hl with | [_, _], _ => rfl
  have FC : Fun K "_law_cells" "_law_cells" sCells (He.fAd K dC.at_) fdC := fun_of DC
  obtain ⟨fdD, DD⟩ := cD.def_ 5 (d := dD) rfl
  have bD := FunD.bindsN (ps := ["pot"]) DD fun _ _ _ _ _ _ us hl => match us, hl with | [_], _ => rfl
  have FD : Fun K "_law_odd" "_law_odd" sOdd (He.fAd K dD.at_) fdD := fun_of DD
  obtain ⟨fdM, DM⟩ := cD.def_ 6 (d := dM) rfl
  have bM := FunD.bindsN (ps := ["value"]) DM fun _ _ _ _ _ _ us hl => match us, hl with | [_], _ => rfl
  have FM : Fun K "_law_all_made" "_law_all_made" sMade (He.fAd K dM.at_) fdM := fun_of DM
  obtain ⟨fdA, DA⟩ := cD.def_ 7 (d := dA) rfl
  have bA := FunD.bindsN (ps := ["error"]) DA fun _ _ _ _ _ _ us hl => match us, hl with | [_], _ => rfl
  have FA : Fun K "_law_marks_one" "_law_marks_one" sOne (He.fAd K dA.at_) fdA := fun_of DA
  obtain ⟨fdB, DB⟩ := cD.def_ 8 (d := dB) rfl
  have bB := FunD.bindsN (ps := ["error"]) DB fun _ _ _ _ _ _ us hl => match us, hl with | [_], _ => rfl
  have FB : Fun K "_law_marks_two" "_law_marks_two" sTwo (He.fAd K dB.at_) fdB := fun_of DB
  obtain ⟨fdR, DR⟩ := cD.def_ 9 (d := dR) rfl
  have bR := FunD.bindsN (ps := ["pot"]) DR fun _ _ _ _ _ _ us hl => match us, hl with | [_], _ => rfl
  have FR : Fun K "_law_right" "_law_right" sRight (He.fAd K dR.at_) fdR := fun_of DR
  obtain ⟨fdL, DL⟩ := cD.def_ 10 (d := dL) rfl
  have FL : Fun K "law" "law" sLaw (He.fAd K dL.at_) fdL := fun_of DL
  have mP : mg "_law_pot" = some (.ref (He.fAd K dP.at_)) := He.glo_ok X G (cD.fact 0 (f := .glo "_law_pot") rfl)
  have mT : mg "_law_take" = some (.ref (He.fAd K dT.at_)) := He.glo_ok X G (cD.fact 1 (f := .glo "_law_take") rfl)
  have mO : mg "_law_of" = some (.ref (He.fAd K dO.at_)) := He.glo_ok X G (cD.fact 2 (f := .glo "_law_of") rfl)
  have mC : mg "_law_cells" = some (.ref (He.fAd K dC.at_)) := He.glo_ok X G (cD.fact 3 (f := .glo "_law_cells") rfl)
  have mD : mg "_law_odd" = some (.ref (He.fAd K dD.at_)) := He.glo_ok X G (cD.fact 4 (f := .glo "_law_odd") rfl)
  have mM : mg "_law_all_made" = some (.ref (He.fAd K dM.at_)) := He.glo_ok X G (cD.fact 5 (f := .glo "_law_all_made") rfl)
  have mA : mg "_law_marks_one" = some (.ref (He.fAd K dA.at_)) := He.glo_ok X G (cD.fact 6 (f := .glo "_law_marks_one") rfl)
  have mB : mg "_law_marks_two" = some (.ref (He.fAd K dB.at_)) := He.glo_ok X G (cD.fact 7 (f := .glo "_law_marks_two") rfl)
  have mR : mg "_law_right" = some (.ref (He.fAd K dR.at_)) := He.glo_ok X G (cD.fact 8 (f := .glo "_law_right") rfl)
  have mL : mg "law" = some (.ref (He.fAd K dL.at_)) := He.glo_ok X G (cD.fact 9 (f := .glo "law") rfl)
  have T : Bl mg := ⟨He.free_ok X G (cD.fact 10 (f := .free "int") rfl), He.free_ok X G (cD.fact 11 (f := .free "abs") rfl), He.free_ok X G (cD.fact 12 (f := .free "len") rfl), He.free_ok X G (cD.fact 13 (f := .free "list") rfl), He.free_ok X G (cD.fact 14 (f := .free "range") rfl), He.free_ok X G (cD.fact 15 (f := .free "max") rfl), He.free_ok X G (cD.fact 16 (f := .free "min") rfl), He.free_ok X G (cD.fact 17 (f := .free "all") rfl), He.free_ok X G (cD.fact 18 (f := .free "any") rfl), He.free_ok X G (cD.fact 19 (f := .free "repr") rfl), He.free_ok X G (cD.fact 20 (f := .free "isinstance") rfl), He.free_ok X G (cD.fact 21 (f := .free "enumerate") rfl), He.free_ok X G (cD.fact 22 (f := .free "ValueError") rfl)⟩
  have R : Rt K mg (iniA K) (lowA K) (errNames.map (He.ga K)) := rt_of X G T cE
  have e := hfa.symm.trans mL
  cases e
  have b := FunD.bindsA (ps := ["script"]) DL fun _ _ _ _ _ _ us hl => match us, hl with | [_], _ => rfl
  refine ⟨fdL, fun s v => b s [v] rfl, fun base _ _ => ?_⟩
  have GR : FnG P w K mg base 4 (He.fAd K dR.at_) fdR ["pot"] spRight := ok_right FR R FI bI FT bT mT FO bO mO FD bD mD FM bM mM FA bA mA FB bB mB
  exact ok_law FL T GR FR.kp bR mR FC bC mC FP bP mP
theorem walkY {l : PySem.W.OpenLaw} {n lev : Nat} {q : Program} {loose : List Str} {XP : (Str → Option Value) → Heap → Prop} {YP : World → Heap → Prop} {d : DefRec} {sp : PySem.W.Frag → Sp} {x : Str}
    (hn : l.most = some n) (hn2 : n ≤ sizeLine) (hdf : d.params.defaults = []) (room : Room lev callerA)
    (F : ∀ (w : World) (mg : Str → Option Value) (fa : Addr) (h : Heap), YP w h → h.Ns mainGlobals mg → mg d.name = some (.ref fa) →
      ∃ (K : PySem.W.Frag) (fD : FuncData), K.In h ∧ (∀ (s : Shared) (u : Value), BindsTo s fD ⟨[u], []⟩ [(x, u)]) ∧
        ∀ base : Heap, K.In base → base.Ns mainGlobals mg → FnG l.prog w K mg base lev fa fD [x] (sp K))
    (hsp : ∀ (K : PySem.W.Frag) (H : Hp) (a : Addr) (ns : List Int), ns.length ≤ n → Only H → SqL K H a (ns.map V.int) → sp K [.ref a] H (fun v _ => v = .bl true) E0) :
    PySem.W.WalkO q loose XP YP l.row.toRowW d [] (fun f vs => PySem.call f vs) := by
  refine Att.attach_call hn hdf ?_
  intro w s₀ s₁ mg mb fa o pm cd doc a vs ns G Y ho hd hcd hmg hobj hints hlen hg
  obtain ⟨K, fD, KX, hb, hF⟩ := F w mg fa _ Y G.T.g hmg
  exact gcall KX G.T.g G.T.b G.T.builtins G.T.nolimit hg hobj hints (Nat.le_trans hlen hn2) room hF hb fun H hO hS => hsp _ H a ns hlen hO hS
abbrev R0 : PySem.W.OpenRow := PySem.W.OpenLaw.row PySem.Challenge.rw_lotkeepers_k00_errors_keep_their_value
def ob (s : PySem.W.SharedT) : He.AlD × Bool := obK (HandSHeadRun.getT s)
theorem ob_eq (s : PySem.W.SharedT) : ob s = hk.obs s.abs := by
  have e : HandSHeadRun.getT s = s.abs.heap.get? := funext (HandSHeadRun.getT_eq s)
  show obK (HandSHeadRun.getT s) = obK s.abs.heap.get?
  rw [e]
def others : List Str := "LotError" :: "_law_pot" :: "_law_take" :: "_law_of" :: "_law_cells" :: "_law_odd" :: "_law_all_made" :: "_law_marks_one" :: "_law_marks_two" :: "_law_right" :: errNames
end Kz
set_option Elab.async false
set_option linter.all false
set_option maxRecDepth 100000
set_option maxHeartbeats 0
namespace Kz
open PySem PySem.Spec PyProof.Rows L2 Lk
theorem run (w : World) : HandSHeadRun.RunEq R0 (PySem.W.view R0.prog [71]) hk ob 13200 others w := by
  intro os
  kernel_rfl
end Kz
set_option Elab.async false
set_option linter.all false
set_option maxRecDepth 100000
set_option maxHeartbeats 0
open PySem PySem.W PySem.Calls PyProof.Rows in
theorem PySem.Challenge.cw_lotkeepers_k00_errors_keep_their_value_holds : PySem.Challenge.rw_lotkeepers_k00_errors_keep_their_value.Holds := by
  w_on; o_law
  refine HandSHeadRun.head_any (r := OpenLaw.row PySem.Challenge.rw_lotkeepers_k00_errors_keep_their_value) (q := view (OpenLaw.row PySem.Challenge.rw_lotkeepers_k00_errors_keep_their_value).prog [71]) (H := Kz.hk) (ob := Kz.ob) (M := 13200) (loose := Kz.others) (d := HandSHeadRun.topDef (OpenLaw.row PySem.Challenge.rw_lotkeepers_k00_errors_keep_their_value).prog 71) (kwd := []) Kz.ob_eq
    (by kernel_rfl) (fun s => by kernel_rfl) Kz.run (by kernel_rfl) (by kernel_rfl) (by kernel_rfl) (by rfl) (by first | assumption | decide +kernel) (by decide +kernel) ⟨rfl, rfl, rfl, rfl, rfl, by decide +kernel⟩ ?hw ?hc
  case hw => w_witness2
  case hc =>
    refine Kz.walkY (l := PySem.Challenge.rw_lotkeepers_k00_errors_keep_their_value) (n := 63) (lev := 5) (x := "script") (sp := Kz.spLaw) rfl (by decide) (by kernel_rfl) ⟨rfl, by decide, by decide⟩ ?F fun K H a ns hl _ hS => ⟨a, ns, rfl, hS, hl, fun _ => rfl⟩
    intro w mg fa h Y G hmg0
    obtain ⟨K, KX, c⟩ := Y
    have hmg : mg ("law" : PySem.Str) = some (.ref fa) := by
      have e : (HandSHeadRun.topDef (OpenLaw.row PySem.Challenge.rw_lotkeepers_k00_errors_keep_their_value).prog 71).name = ("law" : PySem.Str) := by kernel_rfl
      rw [← e]
      exact hmg0
    obtain ⟨fd, hb, hF⟩ := Kz.facts (P := (PySem.Challenge.rw_lotkeepers_k00_errors_keep_their_value).prog) (w := w) KX G hmg c
    exact ⟨K, fd, KX, hb, hF⟩
