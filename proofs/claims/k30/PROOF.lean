import PyProof.Rows.All
import Wide.All
import OpenK.AllK
import Wide.FinOn
import HandS.ForMost
import HandS.Dict
import HandS.ExcInit
import HandS.IsInst
import KE.KExcIs
import HandS.Wide
import HandS.Conv
import PySem.Challenge.RW_lotkeepers_k30_what_shows_lots_that_over
import HandS.Walk
import HandS.Strs
import HandS.OwnEq
import PyProof.InstNe
import HandS.Deep
import PyProof.AutoSeq1
import PyProof.Rows.RegFStrParts
import HandS.Zip
import HandS.Text
import HandS.Iter
import HandS.CallLocal
import HandS.DictComp
import HandS.StrMore
import KE.GoesZip
import KE.GoesMore
import HandS.WideBits
import HandS.WordsDict
import PyProof.EnumMake
import HandS.Sort
import KE.KDictPairs
import KE.LtSeq
import KE.KSortTup
import HandS.SortRule
import HandS.SortInts
import PyProof.EqAt
import HandS.Lambda
import HandS.ExcValue
import HandS.WordsExc
import HandS.Small
import HandS.ListItems
import HandS.TupAny
import HandS.DeepEq
import KE.KStateDown
import HandS.Head0
import HandS.Head1
import HandS.Head2
import HandS.HeadEnd
import HandS.HeadHook1
import HandS.HeadHook2
set_option Elab.async false
set_option linter.all false
set_option maxRecDepth 100000
set_option maxHeartbeats 4000000
/-! Part A: defs that are called while no repr is under way; reading nested data; repr of it. -/
namespace Lk
open PySem PySem.Spec PyProof.Rows L2

/-! ### a def's promise, where the guards around are known to be none -/
abbrev NoG (A : Around) : Prop := A.guards = some []
structure FnG (P : Program) (w : World) (K : PySem.W.Frag) (mg : Str → Option Value) (base : Heap)
    (lev : Nat) (fA : Addr) (fD : FuncData) (pars : List Str) (sp : Sp) : Prop where
  many : ∀ vs H Q, sp vs H Q E0 → vs.length = pars.length
  goes : ∀ (A : Around) (around : List Env) (s : Shared) (H : Hp) (args : Args) (us : List Value) (vs : List V) (Q : VK),
    Room lev A → NoG A → Env0 P w K mg base A around s H → BindsTo s fD args (pars.zip us) → Vals vs us → sp vs H Q E0 →
    codeAny (model P w) A (.call (.ref fA) args) (CR CX0 around P w H s Q E0) s

theorem FnG.of {P : Program} {w : World} {K : PySem.W.Frag} {mg : Str → Option Value} {base : Heap} {lev : Nat} {fA : Addr}
    {pars N : List Str} {sp : Sp} {nm ql : Str} {st : Stmt} {fD : FuncData}
    (F : Fun K nm ql st fA fD) (S : FnScope N pars (defScope st))
    (many : ∀ vs H Q, sp vs H Q E0 → vs.length = pars.length)
    (body : ∀ (cdv : Value) (A : Around) (around : List Env) (s : Shared) (H : Hp) (vs : List V) (Q : VK),
      Room lev (A.deeper (envOfC ql (defScope st) s.heap.objs.size fA cdv)) → NoG A → sp vs H Q E0 →
      ∃ t, PSs (cxOf CX0 P w K mg base N ql (defScope st) fA cdv A around s H E0).nox (defBody st) t ∧
        t { nx := fun _ H' => Q .non H', rt := Q } (start N vs) H) :
    FnG P w K mg base (lev + 1) fA fD pars sp := by
  obtain ⟨oc, od, kV, doc, pm, an, cdv, ct, osl, rfl, look, code⟩ := F.ex
  constructor
  · exact many
  intro A around s H args us vs Q room noG e0 binds rel want
  have same := many _ _ _ want
  have inK : K.In s.heap := e0.mod.kin.keeps fun b o e => (e0.bs b o e).1
  have free := e0.mod.nolimit.keeps fun b o e => (e0.bs b o e).1
  have kinds : ∀ y ∈ pars.zip us, (defScope st).names.lookup y.1 = some .local ∨
      ((defScope st).names.lookup y.1 = some .cell ∧ ((cellsFrom (s.heap.objs.size + 1) (defScope st).names []).lookup y.1).isSome = true) := by
    rintro ⟨n, v⟩ hy
    rcases S.par n (List.of_mem_zip hy).1 with q | q
    · exact Or.inl q
    · exact Or.inr ⟨q, PySem.W.cellsFrom_some _ _ _ (Or.inl q)⟩
  refine codeAny_call_function room.depth (inK _ _ look) rfl S.co S.gen rfl (PySem.W.codeRec_of inK code) (binds _ _ _ _ ?_)
  refine wpAny_newFunctionEnv_cells S.kind kinds ?_
  intro env he s1 x
  subst he
  refine ⟨free.keeps x.toInCall.keep, codeAny_func ?_⟩
  obtain ⟨t, ht, hq⟩ := body cdv A around s H vs Q (room.deeper _) noG want
  have I := inv_start (CX := CX0) (E := E0) S room.hd e0 same rel x
  have run := ht.nox.run [] s1 (start N vs) H _ I hq
  refine wpAny_mono run ?_ fun e s' hs => hs
  intro fl s' hs
  cases fl with
  | ret u =>
    obtain ⟨v, σ', H', J, rv, q⟩ := hs
    exact ⟨v, H', J.os, J.bare, J.base, J.hok, rv, q⟩
  | next =>
    obtain ⟨σ', H', J, q⟩ := hs
    exact ⟨V.non, H', J.os, J.bare, J.base, J.hok, rfl, q⟩
  | brk => obtain ⟨_, _, _, q⟩ := hs; exact False.elim q
  | cont => obtain ⟨_, _, _, q⟩ := hs; exact False.elim q

/-- a plain promise serves, too -/
theorem FnG.ofOk {P : Program} {w : World} {K : PySem.W.Frag} {mg : Str → Option Value} {base : Heap} {lev : Nat} {fA : Addr}
    {fD : FuncData} {pars : List Str} {sp : Sp} (F : FnOk P w K mg base CX0 lev fA fD pars sp) : FnG P w K mg base lev fA fD pars sp :=
  ⟨fun vs H Q h => F.len vs H Q E0 h, fun A around s H args us vs Q r _ e b v h => F.run A around s H args us vs Q E0 r e b v h⟩

section
variable {X : Cx} {lev : Nat} {fA : Addr} {fD : FuncData} {pars : List Str} {sp : Sp} {x : Str} {e : Expr} {es : List Expr} {t : TA} {p pos : Pos}
theorem pe_gcall (F : FnG X.prog X.w X.K X.mg X.base lev fA fD pars sp) (room : Room lev X.A) (noG : NoG X.A) (hg : Gl X x)
    (hm : X.mg x = some (.ref fA)) (hk : PySem.W.keepIn X.K (.ref fA) = true) (hb : Binds X.K fD pars []) (ha : PA X (e :: es) t)
    (hdb : (x == ("__debug__" : Str)) = false := by decide) (hst : starEach (e :: es) X.env = (false, eval e X.env) :: starEach es X.env := by rfl)
    (hpl : (backTo pos (starEach es X.env)).any (·.1) = false := by rfl) : PE X (.Call (.Name x p) (e :: es) [] pos) (tCall sp [] E0 t) := by
  constructor
  intro pins s σ H Q I want
  refine wpAny_Call_Name_kw (ld_glob I hg hm ?_ hdb)
  refine PySem.W.callWith_K (h₀ := X.base) I.ok.mod.kin hk (thn (ha.run pos pins s σ H _ I want) ?_) hst hpl
  rintro us s1 ⟨vs, H1, I1, rel, q⟩
  refine ⟨I1.kIn, ?_⟩
  have rel2 : Vals (vs ++ []) us := by rw [List.append_nil]; exact rel
  have same : us.length = pars.length := by rw [← rel2.length]; exact F.many _ _ _ q
  have binds : BindsTo s1 fD ⟨us, []⟩ (pars.zip us) := by
    have z := hb s1 us I1.kIn (by simpa using same)
    simpa using z
  refine wpAny_call (codeAny_mono (F.goes X.A X.stack s1 H1 ⟨us, []⟩ us _ Q room noG I1.env0 binds rel2 q) ?_)
  intro r s' hq
  cases r with
  | error er => exact hq.elim
  | ok fl =>
    cases fl with
    | ret u => exact I1.after hq
    | next => exact False.elim hq
    | brk => exact False.elim hq
    | cont => exact False.elim hq
end

/-! ### the end of a law: from its promise to the row -/
theorem gcall {P : Program} {w : World} {K : PySem.W.Frag} {mg mb : Str → Option Value} {lev : Nat} {fa a : Addr} {fD : FuncData} {x : Str} {sp : Sp}
    {s0 : Shared} {vs : List Value} {ns : List Int} (KX : K.In s0.heap) (hns : s0.heap.Ns mainGlobals mg) (hb : s0.heap.Ns builtinsNs mb)
    (hbb : ∀ x : Str, x ≠ "__name__" → mb x = bootBuiltins x) (hlim : s0.heap.NoLimit) (hg : s0.gens = #[])
    (ha : s0.heap.get? a = some { cls := .type "list", data := .seq vs.toArray }) (hi : IntsAre vs ns) (hl : ns.length ≤ sizeLine) (room : Room lev callerA)
    (F : ∀ base : Heap, K.In base → base.Ns mainGlobals mg → FnG P w K mg base lev fa fD [x] sp)
    (hbind : ∀ (s : Shared) (u : Value), BindsTo s fD ⟨[u], []⟩ [(x, u)])
    (hsp : ∀ H : Hp, Only H → SqL K H a (ns.map V.int) → sp [.ref a] H (fun v _ => v = .bl true) E0) :
    codeAny (model P w) callerA (.call (.ref fa) ⟨[.ref a], []⟩) (fun r s' => r = .ok (.ret (.bool true)) ∧ OldK s0.heap s'.heap ∧ s'.os = s0.os ∧ AllBare s'.gens) s0 := by
  have rv := vals_ints hi
  have lenV := hi.length
  have main : ∀ H : Hp, Only H → SqL K H a (ns.map V.int) → HOk P w H s0.heap → (∀ b, H b ≠ none → b = a) → (H a ≠ none → K.lookup a = none) →
      codeAny (model P w) callerA (.call (.ref fa) ⟨[.ref a], []⟩) (fun r s' => r = .ok (.ret (.bool true)) ∧ OldK s0.heap s'.heap ∧ s'.os = s0.os ∧ AllBare s'.gens) s0 := by
    intro H hO hS hok hA hK
    have look : ∀ {b : Addr} {o : Obj}, s0.heap.get? b = some o → H b = none → (hidT s0.heap H).get? b = some o := by
      intro b o e n
      exact hidT_get e n
    have noD : ∀ {b : Addr} {o : Obj} {es : Array DictEntry} {ep : Nat}, s0.heap.get? b = some o → o.data = .dict es ep → H b = none := by
      intro b o es ep e d
      cases q : H b with
      | none => rfl
      | some u =>
        have e' : b = a := hA b (by rw [q]; simp)
        subst e'
        rw [ha] at e
        cases e
        cases (show Data.seq vs.toArray _ = Data.dict es ep from d)
    have ns2 : ∀ {b : Addr} {m : Str → Option Value}, s0.heap.Ns b m → (hidT s0.heap H).Ns b m := by
      rintro b m ⟨o, es, ep, e, d, r⟩
      exact ⟨o, es, ep, look e (noD e d), d, r⟩
    have inB : K.In (hidT s0.heap H) := by
      intro b o e
      refine look (KX b o e) ?_
      cases q : H b with
      | none => rfl
      | some u =>
        have e' : b = a := hA b (by rw [q]; simp)
        subst e'
        rw [hK (by rw [q]; simp)] at e
        cases e
    have lim2 : (hidT s0.heap H).NoLimit := by
      obtain ⟨mc, h1, h2⟩ := hlim
      exact ⟨mc, ns2 h1, h2⟩
    have e0 : Env0 P w K mg (hidT s0.heap H) callerA [] s0 H :=
      ⟨rfl, ⟨inB, ns2 hns, ⟨mb, ns2 hb, hbb⟩, lim2⟩, fun b o e => of_hidT e, Nat.le_of_eq (hidT_size _ _), trivial,
        fun b hb => absurd (show b ∈ ([] : List Addr) from hb) (by simp), hok, .of_eq hg⟩
    refine codeAny_mono ((F _ inB (ns2 hns)).goes callerA [] s0 H ⟨[.ref a], []⟩ [.ref a] [.ref a] _ room rfl e0 (hbind s0 (.ref a)) (.cons rfl .nil) (hsp H hO hS)) ?_
    intro r s' h
    cases r with
    | error e => exact h.elim
    | ok fl =>
      cases fl with
      | next => exact False.elim h
      | brk => exact False.elim h
      | cont => exact False.elim h
      | ret u =>
        obtain ⟨v, H', os, bare, un, hok', r', q⟩ := h
        cases (show v = .bl true from q)
        cases (show u = Value.bool true from r')
        refine ⟨rfl, OldK.of_keep ?_, os, bare⟩
        intro b o e
        cases q : H b with
        | none => exact un.keep b o e q (fun z => absurd (show b ∈ ([] : List Addr) from z) (by simp)) (by simp)
        | some u =>
          rcases hO b with z | ⟨ob, xs, z⟩
          · rw [q] at z; cases z
          · obtain ⟨e1, _⟩ := hok b _ z
            obtain ⟨e2, _⟩ := hok' b _ (un.frzs b ob _ z)
            rw [e] at e1
            cases e1
            exact e2
  cases hk : K.lookup a with
  | some o =>
    have e := KX a o hk
    rw [ha] at e
    cases e
    exact main (fun _ => none) (fun _ => .inl rfl) (.inr ⟨_, vs.toArray, _, hk, rfl, rfl, rfl, by rw [List.size_toArray, lenV]; exact hl, by simpa using rv⟩)
      (fun b u z => nomatch (show (none : Option HO) = some u from z)) (fun b z => absurd rfl z) (fun z => absurd rfl z)
  | none =>
    refine main (fun b => if b = a then some (.frz { cls := .type "list", data := .seq vs.toArray } (.lst (ns.map V.int))) else none) ?_ (.inl (.inr ⟨_, if_pos rfl⟩)) ?_ ?_ (fun _ => hk)
    · intro b
      by_cases hb : b = a
      · exact .inr ⟨_, _, if_pos hb⟩
      · exact .inl (if_neg hb)
    · intro b u z
      by_cases hb : b = a
      · have z' := (if_pos hb).symm.trans z
        cases z'
        subst hb
        exact ⟨ha, by rw [List.length_map]; exact hl, vs, _, rv, ha⟩
      · cases (if_neg hb).symm.trans z
    · intro b z
      by_cases hb : b = a
      · exact hb
      · exact absurd (if_neg hb) z
end Lk

namespace Lk
open PySem PySem.Spec PyProof.Rows L2
/-- from the promise of `law` to the row -/
theorem walkG {l : PySem.W.OpenLaw} {n lev : Nat} {q : Program} {loose : List Str} {XP : (Str → Option Value) → Heap → Prop} {YP : World → Heap → Prop}
    {d : DefRec} {K : Params → PySem.W.Frag} {sp : PySem.W.Frag → Sp} {x : Str}
    (hn : l.most = some n) (hn2 : n ≤ sizeLine) (hdf : d.params.defaults = []) (room : Room lev callerA)
    (hY : ∀ (w : World) (h : Heap), YP w h → (K w.params).In h)
    (F : ∀ (w : World) (mg : Str → Option Value) (fa : Addr) (h : Heap), (K w.params).In h → h.Ns mainGlobals mg → mg d.name = some (.ref fa) →
      ∃ fD : FuncData, (∀ (s : Shared) (u : Value), BindsTo s fD ⟨[u], []⟩ [(x, u)]) ∧
        ∀ base : Heap, (K w.params).In base → base.Ns mainGlobals mg → FnG l.prog w (K w.params) mg base lev fa fD [x] (sp (K w.params)))
    (hsp : ∀ (K : PySem.W.Frag) (H : Hp) (a : Addr) (ns : List Int), ns.length ≤ n → Only H → SqL K H a (ns.map V.int) → sp K [.ref a] H (fun v _ => v = .bl true) E0) :
    PySem.W.WalkO q loose XP YP l.row.toRowW d [] (fun f vs => PySem.call f vs) := by
  refine Att.attach_call hn hdf ?_
  intro w s₀ s₁ mg mb fa o pm cd doc a vs ns G Y ho hd hcd hmg hobj hints hlen hg
  have KX := hY w _ Y
  obtain ⟨fD, hb, hF⟩ := F w mg fa _ KX G.T.g hmg
  exact gcall KX G.T.g G.T.b G.T.builtins G.T.nolimit hg hobj hints (Nat.le_trans hlen hn2) room hF hb fun H hO hS => hsp _ H a ns hlen hO hS
end Lk
set_option Elab.async false
set_option linter.all false
set_option maxRecDepth 100000
set_option maxHeartbeats 4000000
/-! Part B: values that are data through and through, and their repr. -/
namespace Lk
open PySem PySem.Spec PyProof.Rows L2

def keyD : Key → PyData
  | .inl i => .int i
  | .inr x => .str x

mutual
/-- v stands for the data d: lists, tuples and dicts that are tracked, ints, texts -/
inductive DW (H : Hp) : V → PyData → Prop
  | non : DW H .non .none
  | bl (b : Bool) : DW H (.bl b) (.bool b)
  | int (i : Int) : DW H (.int i) (.int i)
  | str (x : Str) : DW H (.str x) (.str x)
  | lst {a : Addr} {xs : List V} {ds : List PyData} : H a = some (.lst xs) → a ≠ sysModules → DWs H xs ds → DW H (.ref a) (.list ds)
  | tup {a : Addr} {xs : List V} {ds : List PyData} : H a = some (.tup xs) → DWs H xs ds → DW H (.ref a) (.tuple ds)
  | dic {a : Addr} {kvs : List (Key × V)} {ps : List (PyData × PyData)} : H a = some (.dK kvs) → DWk H kvs ps → DW H (.ref a) (.dict ps)
inductive DWs (H : Hp) : List V → List PyData → Prop
  | nil : DWs H [] []
  | cons {v : V} {vs : List V} {d : PyData} {ds : List PyData} : DW H v d → DWs H vs ds → DWs H (v :: vs) (d :: ds)
inductive DWk (H : Hp) : List (Key × V) → List (PyData × PyData) → Prop
  | nil : DWk H [] []
  | cons {k : Key} {v : V} {kvs : List (Key × V)} {d : PyData} {ps : List (PyData × PyData)} : DW H v d → DWk H kvs ps → DWk H ((k, v) :: kvs) ((keyD k, d) :: ps)
end

mutual
theorem DW.same {H H' : Hp} (k : Same H H') : ∀ {v : V} {d : PyData}, DW H v d → DW H' v d
  | _, _, .non => .non
  | _, _, .bl b => .bl b
  | _, _, .int i => .int i
  | _, _, .str x => .str x
  | _, _, .lst h n r => .lst (k _ _ h) n (DWs.same k r)
  | _, _, .tup h r => .tup (k _ _ h) (DWs.same k r)
  | _, _, .dic h r => .dic (k _ _ h) (DWk.same k r)
theorem DWs.same {H H' : Hp} (k : Same H H') : ∀ {vs : List V} {ds : List PyData}, DWs H vs ds → DWs H' vs ds
  | _, _, .nil => .nil
  | _, _, .cons h r => .cons (DW.same k h) (DWs.same k r)
theorem DWk.same {H H' : Hp} (k : Same H H') : ∀ {vs : List (Key × V)} {ds : List (PyData × PyData)}, DWk H vs ds → DWk H' vs ds
  | _, _, .nil => .nil
  | _, _, .cons h r => .cons (DW.same k h) (DWk.same k r)
end
theorem DWs.length {H : Hp} : ∀ {vs : List V} {ds : List PyData}, DWs H vs ds → vs.length = ds.length
  | _, _, .nil => rfl
  | _, _, .cons _ r => congrArg (· + 1) (DWs.length r)
theorem DWs.get {H : Hp} : ∀ {vs : List V} {ds : List PyData} {i : Nat} {d : PyData}, DWs H vs ds → ds[i]? = some d → ∃ v, vs[i]? = some v ∧ DW H v d
  | _, _, _, _, .nil, e => by simp at e
  | _, _, 0, _, .cons h _, e => by simp at e; subst e; exact ⟨_, rfl, h⟩
  | _, _, i + 1, _, .cons _ r, e => by
    obtain ⟨v, h1, h2⟩ := DWs.get (i := i) r (by simpa using e)
    exact ⟨v, by simpa using h1, h2⟩
theorem DWs.get' {H : Hp} : ∀ {vs : List V} {ds : List PyData} {i : Nat} {v : V}, DWs H vs ds → vs[i]? = some v → ∃ d, ds[i]? = some d ∧ DW H v d
  | _, _, _, _, .nil, e => by simp at e
  | _, _, 0, _, .cons h _, e => by simp at e; subst e; exact ⟨_, rfl, h⟩
  | _, _, i + 1, _, .cons _ r, e => by
    obtain ⟨v, h1, h2⟩ := DWs.get' (i := i) r (by simpa using e)
    exact ⟨v, by simpa using h1, h2⟩
theorem DWs.append {H : Hp} : ∀ {vs ws : List V} {ds es : List PyData}, DWs H vs ds → DWs H ws es → DWs H (vs ++ ws) (ds ++ es)
  | _, _, _, _, .nil, r => r
  | _, _, _, _, .cons h t, r => .cons h (DWs.append t r)

section
variable {X : Cx} {pins : List (Addr × Obj)} {σ : L2.St} {H : Hp} {s : Shared}
theorem reads_key {P : Program} {w : World} {k : Key} {v : Value} (h : (mixKind P w).is k v = true) : Reads s.heap v (keyD k) [] := by
  rcases keyIs_shape (k := k) (v := v) h with ⟨i, t, rfl, rfl⟩ | ⟨x, t, rfl, rfl⟩
  · exact .int i t
  · exact .str x t
theorem pairs_read {P : Program} {w : World} : ∀ {es : List DictEntry} {vs : List (Key × Value)}, Pairs (mixKind P w) es vs →
    ReadsAll s.heap (es.map (·.key)) (vs.map fun p => keyD p.1) []
  | _, _, .nil => .nil
  | _, _, .cons h _ r => ReadsAll.cons (as := []) (reads_key h) (pairs_read r)
mutual
theorem DW.reads (I : Inv X pins σ H s) : ∀ {v : V} {d : PyData} {u : Value}, DW H v d → RelV v u → ∃ as, Reads s.heap u d as ∧ sysModules ∉ as
  | _, _, _, .non, r => by cases r; exact ⟨_, .none, by simp⟩
  | _, _, _, .bl b, r => by cases r; exact ⟨_, .bool b, by simp⟩
  | _, _, _, .int i, r => by obtain ⟨t, rfl⟩ := r; exact ⟨_, .int i t, by simp⟩
  | _, _, _, .str x, r => by obtain ⟨t, rfl⟩ := r; exact ⟨_, .str x t, by simp⟩
  | _, _, _, .lst (a := a) h n rs, r => by
    cases r
    obtain ⟨_, its, m, rv, e⟩ := (show ObjOk X.prog X.w H s.heap a (.lst _) from I.hok a _ h)
    obtain ⟨as, q, z⟩ := DWs.reads I rs rv
    refine ⟨_, Reads.list e rfl rfl (by simpa using q), ?_⟩
    rw [List.mem_cons]
    rintro (e | e)
    · exact n e.symm
    · exact z e
  | _, _, _, .tup (a := a) h rs, r => by
    cases r
    obtain ⟨_, its, rv, o, e, hc, m, hd⟩ := (show ObjOk X.prog X.w H s.heap a (.tup _) from I.hok a _ h)
    obtain ⟨as, q, z⟩ := DWs.reads I rs rv
    exact ⟨_, Reads.tuple e hc hd (by simpa using q), z⟩
  | _, _, _, .dic (a := a) h rs, r => by
    cases r
    obtain ⟨_, n, vs, kv, o, es, ep, e, ex, hd, _, pr, _⟩ := (show ObjOk X.prog X.w H s.heap a (.dK _) from I.hok a _ h)
    have q := pairs_read (s := s) pr
    obtain ⟨bs, q2, q3, z⟩ := DWk.reads I rs kv pr
    refine ⟨_, Reads.dict (as := []) (bs := bs) e ex.1 hd ?_ q2, ?_⟩
    · rw [← q3]; exact q
    · have n' : a ≠ sysModules := by simpa using n
      show ¬ sysModules ∈ a :: bs
      rw [List.mem_cons]
      rintro (e | e)
      · exact n' e.symm
      · exact z e
theorem DWs.reads (I : Inv X pins σ H s) : ∀ {vs : List V} {ds : List PyData} {us : List Value}, DWs H vs ds → Vals vs us → ∃ as, ReadsAll s.heap us ds as ∧ sysModules ∉ as
  | _, _, _, .nil, r => by cases r; exact ⟨_, .nil, by simp⟩
  | _, _, _, .cons h rs, r => by
    cases r with
    | cons r1 r2 =>
      obtain ⟨as, q1, z1⟩ := DW.reads I h r1
      obtain ⟨bs, q2, z2⟩ := DWs.reads I rs r2
      exact ⟨_, .cons q1 q2, by rw [List.mem_append]; exact fun z => z.elim z1 z2⟩
theorem DWk.reads (I : Inv X pins σ H s) : ∀ {kvs : List (Key × V)} {ps : List (PyData × PyData)} {vs : List (Key × Value)} {es : List DictEntry}, DWk H kvs ps → KV kvs vs →
    Pairs (mixKind X.prog X.w) es vs → ∃ bs, ReadsAll s.heap (es.map (·.val)) (ps.map (·.2)) bs ∧ vs.map (fun p => keyD p.1) = ps.map (·.1) ∧ sysModules ∉ bs
  | _, _, _, _, .nil, r, p => by cases r; cases p; exact ⟨_, .nil, rfl, by simp⟩
  | _, _, _, _, .cons (k := k) h rs, r, p => by
    unfold KV at r
    cases r with
    | cons r1 r2 =>
      cases p with
      | cons p1 p2 p3 =>
        obtain ⟨as, q1, z1⟩ := DW.reads I h r1.2
        obtain ⟨bs, q2, q3, z2⟩ := DWk.reads I rs r2 p3
        rw [← p2] at q1
        refine ⟨_, .cons q1 q2, ?_, by rw [List.mem_append]; exact fun z => z.elim z1 z2⟩
        rw [List.map_cons, List.map_cons, ← r1.1, q3]
end
end

/-- repr of such data -/
theorem call_reprD {X : Cx} (noG : NoG X.A) (hu : X.A.units + 64 < cLine) : CallR X (.builtin "repr") (fun xs H Q => ∃ v d, xs = [v] ∧ DW H v d ∧
    d.showable = true ∧ d.depth ≤ 50 ∧ d.shown.length ≤ sizeLine ∧ Q (.str d.shown) H) := by
  intro pins s σ H xs us Q I r h
  obtain ⟨v, d, rfl, dw, hs, hd, hl, q⟩ := h
  obtain ⟨u, rfl, ru⟩ := r.one
  have fin : ∀ t (s' : Shared), Inv X pins σ H s' → EP X pins σ Q (.str d.shown t) s' := fun t s' J => ⟨.str d.shown, H, J, ⟨t, rfl⟩, q⟩
  have refs : ∀ a, u = .ref a → wpAny (model X.prog X.w) X.A (call (.builtin "repr") [u]) (EP X pins σ Q) X.xe s := by
    rintro a rfl
    obtain ⟨as, q1, z⟩ := DW.reads I dw ru
    exact repr_of_reads' q1 hs (fun _ => z) noG (by omega) (fun _ _ e => e) (fun h' t tk k => fin _ _ (I.kept (t' := tk) k)) hl
  cases dw with
  | non => cases (show u = Value.none from ru); exact PySem.P.repr_of_none (fin _ _ (I.tok _))
  | bl b => cases (show u = Value.bool b from ru); cases b <;> exact PySem.P.repr_of_bool (fin _ _ (I.tok _))
  | int i => obtain ⟨t, rfl⟩ := ru; exact PySem.P.repr_of_int (by simpa [PyData.showable] using hs) (fin _ _ (I.tok _))
  | str x => obtain ⟨t, rfl⟩ := ru; exact PySem.P.repr_of_str (fin _ _ (I.tok _)) hl
  | lst h n r => exact refs _ ru
  | tup h r => exact refs _ ru
  | dic h r => exact refs _ ru
end Lk
set_option Elab.async false
set_option linter.all false
set_option maxRecDepth 100000
set_option maxHeartbeats 4000000
/-! Part C: displays as data; the draws of a law. -/
namespace Lk
open PySem PySem.Spec PyProof.Rows L2
abbrev St := L2.St

/-- what is in H' and was not in H -/
def sub (H H' : Hp) : Hp := fun b => if (H b).isSome = true then none else H' b
theorem sub_of {H H' : Hp} {b : Addr} {o : HO} (h : H b = none) (h' : H' b = some o) : sub H H' b = some o := by
  unfold sub
  rw [h, if_neg (by simp)]
  exact h'
theorem of_sub {H H' : Hp} {b : Addr} {o : HO} (h : sub H H' b = some o) : H b = none ∧ H' b = some o := by
  unfold sub at h
  split at h
  · cases h
  · rename_i n
    refine ⟨?_, h⟩
    cases q : H b with
    | none => rfl
    | some u => rw [q] at n; exact absurd rfl n
theorem sub_same (H H' : Hp) : Same (sub H H') H' := fun _ _ e => (of_sub e).2
/-- a fresh value that stands for d; what was tracked stays -/
def tFr (d : PyData) : TE := fun _ H Q => ∀ v H', Same H H' → DW (sub H H') v d → Q v H'
def tFrs (ds : List PyData) : TA := fun _ H Q => ∀ vs H', Same H H' → DWs (sub H H') vs ds → Q vs H'
theorem same_new {H : Hp} {p : Addr} {o : HO} (h : H p = none) : Same H (upd H p o) := fun b u e => by
  rw [upd_ne (ne_of_none e h)]
  exact e
theorem sub_more {H H1 H2 : Hp} (s : Same H1 H2) : Same (sub H H1) (sub H H2) := fun _ _ e => sub_of (of_sub e).1 (s _ _ (of_sub e).2)
theorem sub_less {H H1 H2 : Hp} (s : Same H H1) : Same (sub H1 H2) (sub H H2) := fun _ _ e => sub_of (s.free (of_sub e).1) (of_sub e).2
theorem sub_new {H H1 : Hp} {p : Addr} {o : HO} (s : Same H H1) (h : H1 p = none) : sub H (upd H1 p o) p = some o := sub_of (s.free h) upd_same

section
variable {X : Cx} {e : Expr} {es : List Expr} {t t' : TE} {d : PyData} {ds : List PyData} {pos : Pos} {j : Nat}
theorem pe_imp (h : PE X e t) (k : ∀ σ H Q, t' σ H Q → t σ H Q) : PE X e t' := ⟨fun pins s σ H Q I q => h.run pins s σ H Q I (k σ H Q q)⟩
theorem pa_imp {t t' : TA} (h : PA X es t) (k : ∀ σ H Q, t' σ H Q → t σ H Q) : PA X es t' := ⟨fun pos pins s σ H Q I q => h.run pos pins s σ H Q I (k σ H Q q)⟩
theorem pd_int {i : Int} : PE X (.Constant (.int i) j pos) (tFr (.int i)) := pe_imp pe_int fun _ H _ q => q _ _ (Same.refl H) (.int i)
theorem pd_bl {b : Bool} : PE X (.Constant (.bool b) j pos) (tFr (.bool b)) := pe_imp pe_bl fun _ H _ q => q _ _ (Same.refl H) (.bl b)
theorem pd_non : PE X (.Constant .none j pos) (tFr .none) := pe_imp pe_non fun _ H _ q => q _ _ (Same.refl H) .non
theorem pd_str {x : Str} : PE X (.Constant (.str x) j pos) (tFr (.str x)) := pe_imp pe_str fun _ H _ q => q _ _ (Same.refl H) (.str x)
theorem pd_neg {i : Int} {p1 : Pos} : PE X (.UnaryOp .USub (.Constant (.int i) j p1) pos) (tFr (.int (-i))) :=
  pe_imp (pe_un un_neg pe_int) fun _ H _ q => ⟨i, rfl, q _ _ (Same.refl H) (.int _)⟩
theorem pds_nil : PA X [] (tFrs []) := pa_imp pa_nil fun _ H _ q => q _ _ (Same.refl H) .nil
theorem pds_cons (ha : PE X e (tFr d)) (hr : PA X es (tFrs ds)) (hs : starEach (e :: es) X.env = (false, eval e X.env) :: starEach es X.env := by rfl) : PA X (e :: es) (tFrs (d :: ds)) :=
  pa_imp (pa_cons ha hr hs) fun _ H _ q => fun v H1 s1 d1 vs H2 s2 d2 => q _ _ (s1.trans s2) (.cons (d1.same (sub_more s2)) (d2.same (sub_less s1)))
theorem few_ok {n : Nat} (h : decide (n ≤ 1000) = true) : n ≤ sizeLine := by
  rw [sizeLine_eq]
  have := of_decide_eq_true h
  omega
theorem pd_tup {c : Nat} (h : PA X es (tFrs ds)) (hl : decide (ds.length ≤ 1000) = true := by rfl) : PE X (.Tuple es c pos) (tFr (.tuple ds)) :=
  pe_imp (pe_tup h) fun _ H _ q => fun vs H1 s1 d1 => ⟨by rw [d1.length]; exact few_ok hl, fun p hp => q _ _ (s1.trans (same_new hp)) (.tup (sub_new s1 hp) (d1.same (sub_more (same_new hp))))⟩
/-- a list that is displayed, its address told not to be that of sys.modules -/
def tLstN (t : TA) : TE := fun σ H Q => t σ H fun xs H1 => xs.length ≤ sizeLine ∧ ∀ p, H1 p = none → p ≠ sysModules → Q (.ref p) (upd H1 p (.lst xs))
theorem pe_lstN {t : TA} (h : PA X es t) : PE X (.List es pos) (tLstN t) := by
  constructor
  intro pins s σ H Q I hq
  refine wpAny_List_spliced (thn (h.run pos pins s σ H _ I hq) ?_)
  rintro us s1 ⟨xs, H1, I1, r, z, q⟩
  refine ⟨by rw [← r.length]; exact z, ?_⟩
  have free : H1 s1.heap.objs.size = none := I1.hok.fresh (Nat.le_refl _)
  have J := I1.laid (t' := s1.toks) (a := s1.heap.objs.size) (o := .lst xs) (h' := s1.heap.push { cls := .type "list", data := .seq us.toArray })
    (fun b u e => Heap.get?_push_of_some _ e) (Nat.le_refl _) ⟨z, us, 0, r, Heap.get?_push_size _ rfl⟩
  exact ⟨.ref s1.heap.objs.size, _, J, rfl, q _ free (Nat.ne_of_gt I1.big)⟩
theorem pd_lst (h : PA X es (tFrs ds)) (hl : decide (ds.length ≤ 1000) = true := by rfl) : PE X (.List es pos) (tFr (.list ds)) :=
  pe_imp (pe_lstN h) fun _ H _ q => fun vs H1 s1 d1 => ⟨by rw [d1.length]; exact few_ok hl, fun p hp n => q _ _ (s1.trans (same_new hp)) (.lst (sub_new s1 hp) n (d1.same (sub_more (same_new hp))))⟩
theorem pd_dict0 : PE X (.Dict [] [] pos) (tFr (.dict [])) :=
  pe_imp pe_dnewK fun _ H _ q => fun p hp => q _ _ (same_new hp) (.dic (sub_new (Same.refl H) hp) .nil)
theorem pd_dict1 {k : Str} {p1 : Pos} (h : PE X e (tFr d)) : PE X (.Dict [some (.Constant (.str k) j p1)] [e] pos) (tFr (.dict [(.str k, d)])) :=
  pe_imp (pe_disp (pps_cons pe_str h pps_nil) rfl rfl (by simp) (by simp)) fun _ H _ q => fun p hp v H1 s1 d1 => by
    have e1 := s1 _ _ (upd_same (H := H) (a := p) (o := .dK []))
    refine ⟨e1, [(.inr k, v)], rfl, by simp, ?_⟩
    have same : Same H (upd H1 p (.dK (mergeK [] [(.inr k, v)]))) := fun b u e => by
      have nb := ne_of_none e hp
      rw [upd_ne nb]
      exact s1 b u (by rw [upd_ne nb]; exact e)
    refine q _ _ same (.dic (kvs := [(.inr k, v)]) (sub_of hp upd_same) (.cons (d1.same ?_) .nil))
    intro b u e
    obtain ⟨n1, n2⟩ := of_sub e
    have nb : b ≠ p := fun z => by rw [z, upd_same] at n1; cases n1
    exact sub_of (by rw [upd_ne nb] at n1; exact n1) (by rw [upd_ne nb]; exact n2)
end

/-! ### the draws -/
/-- H' has what H has, but for a; a may be written -/
def ExtP (a : Addr) (H H' : Hp) : Prop := ∀ b o, b ≠ a → H b = some o → H' b = some o
theorem ExtP.refl (a : Addr) (H : Hp) : ExtP a H H := fun _ _ _ e => e
theorem ExtP.trans {a : Addr} {H H1 H2 : Hp} (x : ExtP a H H1) (y : ExtP a H1 H2) : ExtP a H H2 := fun b o n e => y b o n (x b o n e)
theorem ExtP.of {a : Addr} {H H' : Hp} (s : Same H H') : ExtP a H H' := fun b o _ e => s b o e
theorem ExtP.upd (a : Addr) (H : Hp) (o : HO) : ExtP a H (upd H a o) := fun b u n e => by rw [upd_ne n]; exact e
/-- the draws' list: what is left of the cell, the mixed number, how often it was asked -/
def PotAt (a : Addr) (N : Nat) (H : Hp) : Prop := ∃ o b c : Int, H a = some (.lst [.int o, .int b, .int c]) ∧ 0 ≤ o ∧ 0 ≤ b ∧ b < 2305843009213693951 ∧ 0 ≤ c ∧ c ≤ N
theorem PotAt.mono {a : Addr} {N M : Nat} {H : Hp} (h : PotAt a N H) (k : N ≤ M) : PotAt a M H := by
  obtain ⟨o, b, c, e, h0, h1, h2, h3, h4⟩ := h
  exact ⟨o, b, c, e, h0, h1, h2, h3, by omega⟩
theorem PotAt.same {a : Addr} {N : Nat} {H H' : Hp} (h : PotAt a N H) (k : Same H H') : PotAt a N H' := by
  obtain ⟨o, b, c, e, r⟩ := h
  exact ⟨o, b, c, k _ _ e, r⟩
/-- ** to a written power, of great numbers -/
def CPowW (i j : Int) : Prop := 0 ≤ j ∧ j ≤ 1000 ∧ i.natAbs < 2 ^ 4096
theorem op_powW {X : Cx} : OpR X (binaryOp .Pow) (rI CPowW fun i j => .int (i ^ j.toNat)) := opI fun i j _ _ _ _ _ hc q => by
  obtain ⟨h1, h2, h3⟩ := hc
  refine pow_int h1 ?_ q
  have e : Builtin.Int.intBits i ≤ 4096 := by
    unfold Builtin.Int.intBits
    split
    · omega
    · have := PySem.Flt.log2_lt_of (show 0 < 4096 by decide) h3
      omega
  have : (Builtin.Int.intBits i : Int) * j ≤ 4096 * 1000 := Int.mul_le_mul (by omega) h2 h1 (by decide)
  omega
theorem pow_lt {i : Int} {n k : Nat} (h : i.natAbs < n) (hn : 0 < k) : (i ^ k).natAbs < n ^ k := by
  rw [Int.natAbs_pow]
  exact Nat.pow_lt_pow_left h (by omega)
theorem sub_ext {a : Addr} {H H1 H2 : Hp} (ha : H a ≠ none) (x : ExtP a H1 H2) : Same (sub H H1) (sub H H2) := fun b o e => by
  obtain ⟨e0, e1⟩ := of_sub e
  exact sub_of e0 (x b o (fun z => ha (z ▸ e0)) e1)
theorem sub_lessP {a : Addr} {H H1 H2 : Hp} (h1 : H1 a ≠ none) (x : ExtP a H H1) : Same (sub H1 H2) (sub H H2) := fun b o e => by
  obtain ⟨e0, e1⟩ := of_sub e
  refine sub_of ?_ e1
  cases q : H b with
  | none => rfl
  | some u =>
    have nb : b ≠ a := fun z => h1 (z ▸ e0)
    rw [x b u nb q] at e0
    cases e0
theorem PotAt.ne {a : Addr} {N : Nat} {H : Hp} (h : PotAt a N H) : H a ≠ none := by
  obtain ⟨_, _, _, e, _⟩ := h
  rw [e]
  exact fun z => by cases z
end Lk
set_option Elab.async false
set_option linter.all false
set_option maxRecDepth 100000
set_option maxHeartbeats 4000000
namespace K6
open PySem PySem.Spec PyProof.Rows L2 Lk
def top (i : Nat) : Stmt := PySem.Challenge.pw_lotkeepers_k30_what_shows_lots_that_over.main.body.getD i (.Pass ⟨0, 0, 0, 0⟩)
abbrev sPot : Stmt := top 64
abbrev sTake : Stmt := top 65
abbrev sOf : Stmt := top 66
abbrev sCells : Stmt := top 68
abbrev sSome : Stmt := top 67
/-- built-in names that the text leaves alone -/
structure Bl (mg : Str → Option Value) : Prop where
  int : mg "int" = none
  abs : mg "abs" = none
  len : mg "len" = none
  list : mg "list" = none
  range : mg "range" = none
  max : mg "max" = none
  min : mg "min" = none
  all : mg "all" = none
  any : mg "any" = none
  repr : mg "repr" = none
  isin : mg "isinstance" = none
  enum : mg "enumerate" = none
  vErr : mg "ValueError" = none
section
variable {P : Program} {w : World} {K : PySem.W.Frag} {mg : Str → Option Value} {base : Heap} {f : Addr} {fd : FuncData}
def spTake : Sp := fun vs H Q _ => ∃ (a : Addr) (n : Int) (N : Nat), vs = [.ref a, .int n] ∧ PotAt a N H ∧ N ≤ 1000000 ∧ 0 < n ∧ n ≤ 1000 ∧
  ∀ (i : Int) (H' : Hp), 0 ≤ i → i < n → ExtP a H H' → PotAt a (N + 1) H' → Q (.int i) H'
theorem scTake : FnScope ["pot", "upto", "digit", "prime", "mixed"] ["pot", "upto"] (defScope sTake) := ⟨rfl, rfl, rfl, by decide +kernel, rfl, by decide +kernel, by decide +kernel⟩
theorem ok_take (F : Fun K "_law_take" "_law_take" sTake f fd) (T : Bl mg) : FnOk P w K mg base CX0 1 f fd ["pot", "upto"] spTake := by
  refine F.ok scTake (fun vs H Q E h => ?_) (fun cdv A outer s H vs Q E hr h => ?_)
  · obtain ⟨a, n, N, rfl, _⟩ := h
    rfl
  · obtain ⟨a, n, N, rfl, ⟨o, b, c, hp, ho, hb, hb2, hc, hcN⟩, hN, hn, hn2, k⟩ := h
    have nd := scTake.nd
    refine ⟨_, pss_cons (ps_if (pt_cmpR op_gt (pe_ix ix_list (pv 0) pe_int (fun _ _ => rfl)) pe_int (nomark _))
        (pss_cons (ps_set (i := 2) nd rfl (.inl rfl) (pe_op op_mod (pe_callTy call_int1 rfl T.int boot_int (pa_cons (pe_ix ix_list (pv 0) pe_int (fun _ _ => rfl)) pa_nil)) (pv 1)))
          (pss_cons (ps_asg (pe_op op_fdiv (pe_ix ix_list (pv 0) pe_int (fun _ _ => rfl)) (pv 1)) (pg_sub (pv 0) pe_int set_list))
            (pss_one (ps_ret (pv 2))))) pss_nil)
      (pss_cons (ps_asg (pe_op op_add (pe_ix ix_list (pv 0) pe_int (fun _ _ => rfl)) pe_int) (pg_sub (pv 0) pe_int set_list))
        (pss_cons (ps_set (i := 3) nd rfl (.inl rfl) (pe_ix ix_list (pe_lst (pa_cons pe_int (pa_cons pe_int (pa_cons pe_int (pa_cons pe_int (pa_cons pe_int pa_nil))))))
            (pe_op op_mod (pe_callTy call_int1 rfl T.int boot_int (pa_cons (pe_ix ix_list (pv 0) pe_int (fun _ _ => rfl)) pa_nil)) pe_int) (fun _ _ => rfl)))
          (pss_cons (ps_set (i := 4) nd rfl (.inl rfl) (pe_op op_mod (pe_callTy call_int1 rfl T.int boot_int (pa_cons (pe_op op_powW (pe_callTy call_int1 rfl T.int boot_int (pa_cons
                (pe_op op_add (pe_op op_add (pe_ix ix_list (pv 0) pe_int (fun _ _ => rfl)) (pe_op op_mul (pe_op op_mul pe_int (pe_ix ix_list (pv 0) pe_int (fun _ _ => rfl))) (pe_ix ix_list (pv 0) pe_int (fun _ _ => rfl)))) pe_int) pa_nil)) pe_int) pa_nil)) (pv 3)))
            (pss_cons (ps_set (i := 4) nd rfl (.inl rfl) (pe_op op_mod (pe_callTy call_int1 rfl T.int boot_int (pa_cons (pe_op op_mul (pv 4)
                (pe_op op_add (pe_op op_mod (pe_callTy call_int1 rfl T.int boot_int (pa_cons (pv 4) pa_nil)) pe_int) (pe_op op_mul pe_int (pe_ix ix_list (pv 0) pe_int (fun _ _ => rfl))))) pa_nil)) pe_int))
              (pss_one (ps_ret (pe_op op_mod (pe_callTy call_int1 rfl T.int boot_int (pa_cons (pe_op op_fdiv (pv 4) pe_int) pa_nil)) (pv 1)))))))), ?_⟩
    -- if pot[0] > 0
    refine ⟨_, rfl, a, _, _, _, rfl, rfl, SqL.of hp, rfl, _, _, rfl, rfl, _, rfl, ?_⟩
    refine ite2 (fun hpos => ?_) (fun _ => ?_)
    · refine ⟨_, rfl, a, _, _, _, rfl, rfl, SqL.of hp, rfl, .inl ⟨_, rfl, _, rfl, _, _, rfl, rfl, hn, ?_⟩⟩
      refine ⟨_, rfl, a, _, _, _, rfl, rfl, SqL.of hp, rfl, _, rfl, _, _, rfl, rfl, ⟨hn, by omega⟩, _, rfl, a, _, _, 0, rfl, rfl, hp, rfl, ?_⟩
      refine ⟨_, rfl, ?_⟩
      exact k _ _ (Int.emod_nonneg _ (by omega)) (Int.emod_lt_of_pos _ hn) (ExtP.upd _ _ _)
        ⟨o / n, b, c, upd_same, Int.ediv_nonneg ho (by omega), hb, hb2, hc, by omega⟩
    · -- pot[2] = pot[2] + 1
      refine ⟨_, rfl, a, _, _, _, rfl, rfl, SqL.of hp, rfl, _, _, rfl, rfl, _, rfl, a, _, _, 2, rfl, rfl, hp, rfl, ?_⟩
      have hq : upd H a (.lst [.int o, .int b, .int (c + 1)]) a = some (.lst [.int o, .int b, .int (c + 1)]) := upd_same
      -- prime = [..][int(pot[2]) % 5]
      refine ⟨by rw [sizeLine_eq]; decide, fun p np => ?_⟩
      have nap : a ≠ p := fun z => by rw [← z, upd_same] at np; cases np
      have hq2 : ∀ o', upd (upd H a (.lst [.int o, .int b, .int (c + 1)])) p o' a = some (.lst [.int o, .int b, .int (c + 1)]) := fun o' => by rw [upd_ne nap]; exact hq
      refine ⟨_, rfl, a, _, _, _, rfl, rfl, SqL.of (hq2 _), rfl, .inl ⟨_, rfl, _, _, rfl, rfl, (show (0 : Int) < 5 by decide), ?_⟩⟩
      have r0 : 0 ≤ (c + 1) % 5 := Int.emod_nonneg _ (by decide)
      have r5 : (c + 1) % 5 < 5 := Int.emod_lt_of_pos _ (by decide)
      obtain ⟨pr, hpr, hp0⟩ : ∃ pr : Int, ([V.int 2147483647, .int 2147483629, .int 2147483587, .int 2147483579, .int 2147483563] : List V)[((c + 1) % 5).toNat]? = some (.int pr) ∧ 0 < pr := by
        have : ((c + 1) % 5).toNat = 0 ∨ ((c + 1) % 5).toNat = 1 ∨ ((c + 1) % 5).toNat = 2 ∨ ((c + 1) % 5).toNat = 3 ∨ ((c + 1) % 5).toNat = 4 := by omega
        rcases this with e | e | e | e | e <;> rw [e] <;> exact ⟨_, rfl, by decide⟩
      have hix : atI ([V.int 2147483647, .int 2147483629, .int 2147483587, .int 2147483579, .int 2147483563] : List V) ((c + 1) % 5) = some (.int pr) := by
        have e : (c + 1) % 5 = ((((c + 1) % 5).toNat : Nat) : Int) := by omega
        rw [e]
        exact atI_nat hpr
      refine ⟨p, _, _, _, rfl, rfl, SqL.of upd_same, hix, ?_⟩
      generalize hH : upd _ p _ = H2
      have hq3 : H2 a = some (.lst [.int o, .int b, .int (c + 1)]) := by rw [← hH]; exact hq2 _
      have hx : ExtP a H H2 := fun z u nz e => by
        have nzp : z ≠ p := fun q => by rw [q] at e nz; rw [upd_ne nz] at np; rw [np] at e; cases e
        rw [← hH, upd_ne nzp, upd_ne nz]
        exact e
      -- mixed = int(int(pot[1] + .. * pot[2] * pot[2] + ..) ** 3) % prime
      have c1 : c + 1 ≤ 1000001 := by omega
      refine ⟨_, rfl, a, _, _, _, rfl, rfl, SqL.of hq3, rfl, _, rfl, a, _, _, _, rfl, rfl, SqL.of hq3, rfl, _, _, rfl, rfl, .inl ⟨by decide, by decide⟩, ?_⟩
      refine ⟨_, rfl, a, _, _, _, rfl, rfl, SqL.of hq3, rfl, _, _, rfl, rfl, .inr ⟨by show -(2 ^ 64) < c + 1; omega, by show c + 1 < 2 ^ 64; omega⟩, _, _, rfl, rfl, _, _, rfl, rfl, .inl ⟨_, rfl, ?_⟩⟩
      have z1 : 0 ≤ 97843 * (c + 1) * (c + 1) := Int.mul_nonneg (by omega) (by omega)
      have z2 : 97843 * (c + 1) * (c + 1) ≤ 97843 * 1000001 * 1000001 := Int.mul_le_mul (by omega) c1 (by omega) (by decide)
      refine ⟨_, _, rfl, rfl, ⟨by decide, by decide, ?_⟩, .inl ⟨_, rfl, _, rfl, _, _, rfl, rfl, hp0, ?_⟩⟩
      · have : (b + 97843 * (c + 1) * (c + 1) + 109).natAbs < 2 ^ 64 := by omega
        exact Nat.lt_of_lt_of_le this (Nat.pow_le_pow_right (by decide) (by decide))
      have m0 := Int.emod_nonneg ((b + 97843 * (c + 1) * (c + 1) + 109) ^ (3 : Int).toNat) (show pr ≠ 0 by omega)
      have m1 := Int.emod_lt_of_pos ((b + 97843 * (c + 1) * (c + 1) + 109) ^ (3 : Int).toNat) hp0
      have hpr2 : pr ≤ 2147483647 := by
        have : ((c + 1) % 5).toNat = 0 ∨ ((c + 1) % 5).toNat = 1 ∨ ((c + 1) % 5).toNat = 2 ∨ ((c + 1) % 5).toNat = 3 ∨ ((c + 1) % 5).toNat = 4 := by omega
        rcases this with e | e | e | e | e <;> rw [e] at hpr <;> cases hpr <;> decide
      obtain ⟨m, hm⟩ : ∃ m, m = (b + 97843 * (c + 1) * (c + 1) + 109) ^ (3 : Int).toNat % pr := ⟨_, rfl⟩
      have m2 : -(2 ^ 64) < (b + 97843 * (c + 1) * (c + 1) + 109) ^ (3 : Int).toNat % pr := by rw [← hm] at m0 ⊢; omega
      have m3 : (b + 97843 * (c + 1) * (c + 1) + 109) ^ (3 : Int).toNat % pr < 2 ^ 64 := by rw [← hm] at m1 ⊢; omega
      -- mixed = int(mixed * (int(mixed) % .. + .. * pot[2])) % ..; return int(mixed // ..) % upto
      refine ⟨_, rfl, _, rfl, .inl ⟨_, rfl, _, _, rfl, rfl, (show (0 : Int) < 10487 by decide), ?_⟩⟩
      refine ⟨_, rfl, a, _, _, _, rfl, rfl, SqL.of hq3, rfl, _, _, rfl, rfl, .inl ⟨by decide, by decide⟩, _, _, rfl, rfl, _, _, rfl, rfl, .inl ⟨m2, m3⟩, .inl ⟨_, rfl, _, _, rfl, rfl, (show (0 : Int) < 2305843009213693907 by decide), ?_⟩⟩
      refine ⟨_, rfl, _, _, rfl, rfl, ⟨by decide, by decide⟩, .inl ⟨_, rfl, _, rfl, _, _, rfl, rfl, hn, ?_⟩⟩
      exact k _ _ (Int.emod_nonneg _ (by omega)) (Int.emod_lt_of_pos _ hn) hx ⟨o, b, c + 1, hq3, ho, hb, hb2, by omega, by omega⟩
end
section
variable {P : Program} {w : World} {K : PySem.W.Frag} {mg : Str → Option Value} {base : Heap} {f : Addr} {fd : FuncData}
/-! ### _law_of -/
def spOf : Sp := fun vs H Q _ => ∃ (a l : Addr) (N : Nat) (xs : List V), vs = [.ref a, .ref l] ∧ PotAt a N H ∧ N ≤ 1000000 ∧ l ≠ a ∧ H l = some (.lst xs) ∧ 0 < xs.length ∧ xs.length ≤ 1000 ∧
  ∀ (i : Nat) (x : V) (H' : Hp), xs[i]? = some x → ExtP a H H' → PotAt a (N + 1) H' → Q x H'
theorem scOf : FnScope ["pot", "some"] ["pot", "some"] (defScope sOf) := ⟨rfl, rfl, rfl, by decide +kernel, rfl, by decide +kernel, by decide +kernel⟩
theorem ok_of {f1 : Addr} {fd1 : FuncData} (F : Fun K "_law_of" "_law_of" sOf f fd) (T : Bl mg) (F1 : Fun K "_law_take" "_law_take" sTake f1 fd1) (b1 : Binds K fd1 ["pot", "upto"] []) (m1 : mg "_law_take" = some (.ref f1)) :
    FnOk P w K mg base CX0 2 f fd ["pot", "some"] spOf := by
  have G1 : FnOk P w K mg base CX0 1 f1 fd1 ["pot", "upto"] spTake := ok_take F1 T
  refine F.ok scOf (fun vs H Q E h => ?_) (fun cdv A outer s H vs Q E hr h => ?_)
  · obtain ⟨a, l, N, xs, rfl, _⟩ := h
    rfl
  · obtain ⟨a, l, N, xs, rfl, hp, hN, nla, hl, h0, h1, k⟩ := h
    refine ⟨_, pss_one (ps_ret (pe_ix ix_list (pv 1) (pe_call G1 hr rfl m1 F1.kp b1 .nil pass0 (pa_cons (pv 0) (pa_cons (pe_callB call_len_seq (by rfl) T.len PySem.boot_len (pa_cons (pv 1) pa_nil)) pa_nil))) (fun _ _ => rfl))), ?_⟩
    refine ⟨_, rfl, _, rfl, _, rfl, l, _, rfl, .inl (SqL.of hl), a, _, N, rfl, hp, hN, by omega, by omega, fun i H' i0 i1 ex hp' => ?_⟩
    have hl' : H' l = some (.lst xs) := ex l _ nla hl
    obtain ⟨x, hx⟩ : ∃ x, xs[i.toNat]? = some x := ⟨_, List.getElem?_eq_getElem (by omega)⟩
    refine ⟨l, xs, i, x, rfl, rfl, SqL.of hl', ?_, k i.toNat x H' hx ex hp'⟩
    have e : i = ((i.toNat : Nat) : Int) := by omega
    rw [e]
    exact atI_nat hx
/-! ### _law_cells -/
def spCells (K : PySem.W.Frag) : Sp := fun vs H Q _ => ∃ (a : Addr) (ns : List Int) (m : Int), vs = [.ref a, .int m] ∧ SqL K H a (ns.map V.int) ∧ ns.length ≤ 63 ∧ 0 ≤ m ∧ m ≤ 60 ∧
  ∀ (l : Addr) (n : Nat), n ≤ 63 → H l = none → Q (.ref l) (upd H l (.lst (rgV 0 (n : Int))))
theorem scCells : FnScope ["script", "limit"] ["script", "limit"] (defScope sCells) := ⟨rfl, rfl, rfl, by decide +kernel, rfl, by decide +kernel, by decide +kernel⟩
theorem ok_cells (F : Fun K "_law_cells" "_law_cells" sCells f fd) (T : Bl mg) : FnOk P w K mg base CX0 1 f fd ["script", "limit"] (spCells K) := by
  refine F.ok scCells (fun vs H Q E h => ?_) (fun cdv A outer s H vs Q E hr h => ?_)
  · obtain ⟨a, ns, m, rfl, _⟩ := h
    rfl
  · obtain ⟨a, ns, m, rfl, hs, hl, m0, m1, k⟩ := h
    refine ⟨_, pss_one (ps_ret (pe_listRg rfl (by rfl) T.list (prg_1 (by rfl) T.range (pe_callB (call_max2 rfl) (by rfl) T.max boot_max (pa_cons pe_int (pa_cons
      (pe_callB (call_min2 rfl) (by rfl) T.min boot_min (pa_cons (pv 1) (pa_cons (pe_callB call_len_seq (by rfl) T.len PySem.boot_len (pa_cons (pv 0) pa_nil)) pa_nil))) pa_nil)))))), ?_⟩
    refine ⟨_, rfl, _, rfl, a, _, rfl, .inl hs, _, _, rfl, _, _, rfl, _, rfl, ?_, ?_⟩
    · rw [List.length_map]
      exact RgOk.of_le (by decide) (by split <;> split <;> omega) (by decide) (by split <;> split <;> omega)
    · intro l hn
      have := k l (if (if ((ns.map V.int).length : Int) < m then ((ns.map V.int).length : Int) else m) > 1 then (if ((ns.map V.int).length : Int) < m then ((ns.map V.int).length : Int) else m) else 1).toNat
        (by rw [List.length_map]; split <;> split <;> omega) hn
      rw [Int.toNat_of_nonneg (by rw [List.length_map]; split <;> split <;> omega)] at this
      exact this
/-! ### _law_pot -/
def spPot (K : PySem.W.Frag) : Sp := fun vs H Q _ => ∃ (a : Addr) (ns : List Int) (i : Int), vs = [.ref a, .int i] ∧ SqL K H a (ns.map V.int) ∧ ns.length ≤ 63 ∧ 0 ≤ i ∧ i ≤ 100 ∧
  ∀ (p : Addr) (H' : Hp), H p = none → Same H H' → PotAt p 0 H' → Q (.ref p) H'
theorem scPot : FnScope ["script", "place", "cell", "own", "small"] ["script", "place"] (defScope sPot) := ⟨rfl, rfl, rfl, by decide +kernel, rfl, by decide +kernel, by decide +kernel⟩
theorem ten_pow : (0 : Int) < ((10 : Int) ^ (60 : Int).toNat) ^ (5 : Int).toNat := by decide +kernel
theorem ten_bits : ((10 : Int) ^ (60 : Int).toNat).natAbs < 2 ^ 4096 := by
  refine Nat.lt_of_lt_of_le (show ((10 : Int) ^ (60 : Int).toNat).natAbs < 2 ^ 256 by decide +kernel) (Nat.pow_le_pow_right (by decide) (by decide))
/-- the cell: some int -/
def tCell (K : PySem.W.Frag) : TE := fun σ H Q => ∃ (a : Addr) (ns : List Int) (i : Int), σ[0]? = some (some (.ref a)) ∧ σ[1]? = some (some (.int i)) ∧ SqL K H a (ns.map V.int) ∧ 0 ≤ i ∧ i ≤ 100 ∧ ∀ n : Int, Q (.int n) H
theorem ok_pot (F : Fun K "_law_pot" "_law_pot" sPot f fd) (T : Bl mg) : FnOk P w K mg base CX0 1 f fd ["script", "place"] (spPot K) := by
  refine F.ok scPot (fun vs H Q E h => ?_) (fun cdv A outer s H vs Q E hr h => ?_)
  · obtain ⟨a, ns, i, rfl, _⟩ := h
    rfl
  · obtain ⟨a, ns, i, rfl, hs, hl, i0, i1, k⟩ := h
    have nd := scPot.nd
    refine ⟨_, pss_cons (ps_set (i := 2) nd rfl (.inl rfl) (pe_imp (t' := tCell K) (pe_ifExp (pt_cmpR op_lt (pv 1) (pe_callB call_len_seq (by rfl) T.len PySem.boot_len (pa_cons (pv 0) pa_nil)) (nomark _))
          (pe_ix ix_list (pv 0) (pv 1) (fun _ _ => rfl)) (pe_op op_add (pe_op op_mul pe_int (pv 1)) pe_int)) ?_))
      (pss_cons (ps_set (i := 3) nd rfl (.inl rfl) (pe_op op_mul (pe_op op_mod (pe_callTy call_int1 rfl T.int boot_int (pa_cons (pe_callB call_abs (by rfl) T.abs boot_abs (pa_cons (pv 2) pa_nil)) pa_nil)) (pe_op op_powW (pe_op op_pow pe_int pe_int) pe_int))
          (pe_callTy call_int1 rfl T.int boot_int (pa_cons (pe_cmpR op_ge (pe_callB call_abs (by rfl) T.abs boot_abs (pa_cons (pv 2) pa_nil)) (pe_op op_pow pe_int pe_int) (nomark _)) pa_nil))))
        (pss_cons (ps_set (i := 4) nd rfl (.inl rfl) (pe_op op_mod (pe_callTy call_int1 rfl T.int boot_int (pa_cons (pv 2) pa_nil)) pe_int))
          (pss_one (ps_ret (pe_lst (pa_cons (pv 3) (pa_cons (pe_op op_mod (pe_callTy call_int1 rfl T.int boot_int (pa_cons
            (pe_op op_add (pe_op op_add (pe_op op_mul (pv 4) pe_int) (pe_op op_mul (pe_op op_mul pe_int (pv 1)) (pv 1))) pe_int) pa_nil)) pe_int) (pa_cons pe_int pa_nil)))))))), ?_⟩
    · rintro σ H' Q' ⟨a, ns, i, e0, e1, hs, i0, i1, q⟩
      refine ⟨_, e1, _, e0, a, _, rfl, .inl hs, _, _, rfl, rfl, _, rfl, ?_⟩
      refine ite2 (fun hlt => ?_) (fun _ => ?_)
      · have hlt' : i.toNat < ns.length := by have := of_decide_eq_true hlt; rw [List.length_map] at this; omega
        obtain ⟨x, hx0⟩ : ∃ x, ns[i.toNat]? = some x := ⟨_, List.getElem?_eq_getElem hlt'⟩
        have hx : atI (ns.map V.int) i = some (.int x) := by
          have e : i = ((i.toNat : Nat) : Int) := by omega
          rw [e]
          exact atI_nat (by rw [List.getElem?_map, hx0]; rfl)
        exact ⟨_, e0, _, e1, a, _, _, _, rfl, rfl, hs, hx, q _⟩
      · exact ⟨_, e1, _, _, rfl, rfl, .inl ⟨by decide, by decide⟩, _, _, rfl, rfl, q _⟩
    · refine ⟨a, ns, i, rfl, rfl, hs, i0, i1, fun n => ?_⟩
      have b2 : ∀ c : Bool, -(2 ^ 64) < (if c = true then (1 : Int) else 0) ∧ (if c = true then (1 : Int) else 0) < 2 ^ 64 := by decide
      have b0 : ∀ c : Bool, 0 ≤ (if c = true then (1 : Int) else 0) := by decide
      refine ⟨_, rfl, _, rfl, .inl ⟨_, rfl, _, _, rfl, rfl, ⟨by decide, by decide, by decide⟩, _, _, rfl, rfl, ⟨by decide, by decide, ten_bits⟩, _, _, rfl, rfl, ten_pow, ?_⟩⟩
      refine ⟨_, rfl, _, rfl, _, _, rfl, rfl, ⟨by decide, by decide, by decide⟩, _, _, rfl, rfl, .inr ⟨_, rfl, _, _, rfl, rfl, .inr (b2 _), ?_⟩⟩
      refine ⟨_, rfl, .inl ⟨_, rfl, _, _, rfl, rfl, (show (0 : Int) < 2305843009213693951 by decide), ?_⟩⟩
      refine ⟨_, rfl, _, rfl, _, _, rfl, rfl, .inr ⟨by decide, by decide⟩, _, rfl, _, _, rfl, rfl, .inl ⟨by decide, by decide⟩, _, rfl, _, _, rfl, rfl,
        .inl ⟨by show -(2 ^ 64) < 7793 * i; omega, by show 7793 * i < 2 ^ 64; omega⟩, _, _, rfl, rfl, _, _, rfl, rfl, .inl ⟨_, rfl, _, _, rfl, rfl, (show (0 : Int) < 2305843009213693921 by decide), ?_⟩⟩
      refine ⟨(show 3 ≤ sizeLine by rw [sizeLine_eq]; decide), fun p np => k p _ np (same_new np) ⟨_, _, _, upd_same, ?_, Int.emod_nonneg _ (by decide), ?_, by decide, by decide⟩⟩
      · exact Int.mul_nonneg (Int.emod_nonneg _ (Int.ne_of_gt ten_pow)) (b0 _)
      · exact Int.lt_trans (Int.emod_lt_of_pos _ (show (0 : Int) < 2305843009213693921 by decide)) (by decide)
end
end K6
set_option Elab.async false
set_option linter.all false
set_option maxRecDepth 100000
set_option maxHeartbeats 4000000
namespace K6
open PySem PySem.Spec PyProof.Rows L2 Lk
section
variable {P : Program} {w : World} {K : PySem.W.Frag} {mg : Str → Option Value} {base : Heap} {f : Addr} {fd : FuncData}
/-! ### _law_some -/
/-- ys are some of xs, each at its own place, in any sequence -/
def Sel {α : Type} (ys xs : List α) : Prop := ∃ zs, (ys ++ zs).Perm xs
theorem Sel.sub {α : Type} {ys xs : List α} (h : Sel ys xs) : ∀ y ∈ ys, y ∈ xs := fun y hy => by
  obtain ⟨zs, p⟩ := h
  exact p.mem_iff.mp (List.mem_append_left _ hy)
theorem Sel.nodup {α : Type} {ys xs : List α} (h : Sel ys xs) (n : xs.Nodup) : ys.Nodup := by
  obtain ⟨zs, p⟩ := h
  exact (p.nodup_iff.mpr n).sublist (List.sublist_append_left _ _)
theorem perm_erase {α : Type} : ∀ {xs : List α} {k : Nat} {y : α}, xs[k]? = some y → (y :: xs.eraseIdx k).Perm xs
  | [], _, _, h => by simp at h
  | x :: xs, 0, y, h => by simp at h; subst h; exact List.Perm.refl _
  | x :: xs, k + 1, y, h => by
    have := perm_erase (xs := xs) (k := k) (y := y) (by simpa using h)
    exact (List.Perm.swap x y _).trans (this.cons x)
def spSome (K : PySem.W.Frag) : Sp := fun vs H Q _ => ∃ (a l : Addr) (m : Int) (N : Nat) (xs : List V), vs = [.ref a, .ref l, .int m] ∧ PotAt a N H ∧ N + m.toNat ≤ 1000000 ∧ (SqL K H l xs ∨ SqT K H l xs) ∧ 0 ≤ m ∧ m ≤ xs.length ∧ xs.length ≤ 1000 ∧
  ∀ (ys : List V) (p : Addr) (H' : Hp), Sel ys xs → ys.length = m.toNat → ExtP a H H' → PotAt a (N + m.toNat) H' → H p = none → p ≠ sysModules → H' p = some (.lst ys) → Q (.ref p) H'
theorem scSome : FnScope ["pot", "pool", "amount", "rest_here", "found", "lap"] ["pot", "pool", "amount"] (defScope sSome) := ⟨rfl, rfl, rfl, by decide +kernel, rfl, by decide +kernel, by decide +kernel⟩
theorem ok_some {f1 : Addr} {fd1 : FuncData} (F : Fun K "_law_some" "_law_some" sSome f fd) (T : Bl mg) (F1 : Fun K "_law_take" "_law_take" sTake f1 fd1) (b1 : Binds K fd1 ["pot", "upto"] []) (m1 : mg "_law_take" = some (.ref f1)) :
    FnOk P w K mg base CX0 2 f fd ["pot", "pool", "amount"] (spSome K) := by
  have G1 : FnOk P w K mg base CX0 1 f1 fd1 ["pot", "upto"] spTake := ok_take F1 T
  refine F.ok scSome (fun vs H Q E h => ?_) (fun cdv A outer s H vs Q E hr h => ?_)
  · obtain ⟨a, l, m, N, xs, rfl, _⟩ := h
    rfl
  · obtain ⟨a, l, m, N, xs, rfl, hp, hN, hl, h0, h1, h2, k⟩ := h
    have nd := scSome.nd
    refine ⟨_, pss_cons (ps_par (i := 3) (j := 4) rfl nd rfl rfl (by decide) rfl rfl (by exact (pa_cons (pe_callTy call_list_of rfl T.list boot_list (pa_cons (pv 1) pa_nil)) (pa_cons (pe_lstN pa_nil) pa_nil))) rfl)
      (pss_cons (ps_for PassesOwn.never rfl (pi_range1 rfl T.range (pa_cons (pv 2) pa_nil)) (pg_name (i := 5) nd rfl (.inl rfl))
          (pss_one (ps_expr (pe_bm PySem.F.plainAttrs_list PySem.F.slot_list_append PySem.F.type_list_append mt_append (pv 4) (pa_cons (pe_bm PySem.F.plainAttrs_list PySem.F.slot_list_pop PySem.F.type_list_pop mt_popAt (pv 3)
            (pa_cons (pe_call G1 hr rfl m1 F1.kp b1 .nil pass0 (pa_cons (pv 0) (pa_cons (pe_callB call_len_seq (by rfl) T.len PySem.boot_len (pa_cons (pv 3) pa_nil)) pa_nil))) pa_nil)) pa_nil)))))
        (pss_one (ps_ret (pv 4)))), ?_⟩
    refine ⟨_, rfl, l, xs, rfl, hl, fun r nr => ?_⟩
    have s1 : Same H (upd H r (.lst xs)) := same_new nr
    refine ⟨Nat.zero_le _, fun q nq nsq => ⟨_, _, rfl, ?_⟩⟩
    have s2 : Same (upd H r (.lst xs)) (upd (upd H r (.lst xs)) q (.lst [])) := same_new nq
    have rq : r ≠ q := fun z => by rw [← z, upd_same] at nq; cases nq
    have nH : H q = none := by rw [upd_ne rq.symm] at nq; exact nq
    have hp2 := (hp.same s1).same s2
    have ra : r ≠ a := fun z => hp.ne (by rw [← z]; exact nr)
    have qa : q ≠ a := fun z => hp.ne (by rw [← z]; exact nH)
    refine ⟨_, rfl, m, rfl, by omega, by omega, for_range (lo := 0) (n := m.toNat) (fun i σ H' => ∃ (ys zs : List V) (u : Option V), σ = [some (.ref a), some (.ref l), some (.int m), some (.ref r), some (.ref q), u] ∧
        (ys ++ zs).Perm xs ∧ ys.length = i ∧ H' r = some (.lst zs) ∧ H' q = some (.lst ys) ∧ PotAt a (N + i) H' ∧ ∀ b o, b ≠ a → b ≠ r → b ≠ q → H b = some o → H' b = some o) ?_ ?_ ?_⟩
    · refine ⟨[], xs, none, rfl, List.Perm.refl _, rfl, by rw [upd_ne rq, upd_same], upd_same, hp2, fun b o _ nr nq e => by rw [upd_ne nq, upd_ne nr]; exact e⟩
    · rintro i σ H' hi ⟨ys, zs, u, rfl, pm, hy, er, eq, pt, ex⟩
      have lz : zs.length = xs.length - i := by
        have := pm.length_eq
        rw [List.length_append, hy] at this
        omega
      refine ⟨_, rfl, .inl ⟨rfl, _, SqL.of eq⟩, _, rfl, .inl ⟨rfl, _, SqL.of er⟩, _, rfl, _, rfl, r, _, rfl, .inl (SqL.of er), ?_⟩
      refine ⟨a, _, N + i, rfl, pt, by omega, by omega, by omega, fun j H2 j0 j1 x2 p2 => ?_⟩
      have er2 : H2 r = some (.lst zs) := x2 _ _ ra er
      have eq2 : H2 q = some (.lst ys) := x2 _ _ qa eq
      obtain ⟨y, hyj⟩ : ∃ y, zs[j.toNat]? = some y := ⟨_, List.getElem?_eq_getElem (by omega)⟩
      have sx : seqIndex? j zs.length = some j.toNat := by
        unfold seqIndex?
        rw [if_neg (show ¬ j < 0 by omega)]
        simp only [Bool.and_eq_true, decide_eq_true_eq]
        rw [if_pos ⟨by omega, by omega⟩]
      refine ⟨r, zs, j, j.toNat, y, rfl, rfl, er2, by omega, by omega, sx, hyj, ?_⟩
      have eq3 : upd H2 r (.lst (zs.eraseIdx j.toNat)) q = some (.lst ys) := by rw [upd_ne rq.symm]; exact eq2
      refine ⟨q, _, _, rfl, rfl, eq3, ?_, ?_⟩
      · rw [sizeLine_eq]; omega
      refine ⟨ys ++ [y], zs.eraseIdx j.toNat, _, rfl, ?_, by rw [List.length_append, hy]; rfl, ?_, upd_same, ?_, fun b o na nbr nbq e => ?_⟩
      · rw [List.append_assoc]
        exact ((List.Perm.append_left ys (perm_erase hyj)).trans pm)
      · rw [upd_ne rq, upd_same]
      · obtain ⟨o, b, c, e, r0⟩ := p2
        exact ⟨o, b, c, by rw [upd_ne qa.symm, upd_ne ra.symm]; exact e, r0⟩
      · rw [upd_ne nbq, upd_ne nbr]
        exact x2 b o na (ex b o na nbr nbq e)
    · rintro σ H' ⟨ys, zs, u, rfl, pm, hy, er, eq, pt, ex⟩
      refine ⟨_, rfl, k ys q H' ⟨zs, pm⟩ hy (fun b o na e => ex b o na (ne_of_none e nr) (ne_of_none e nH) e) pt nH nsq eq⟩
end
end K6
set_option Elab.async false
set_option linter.all false
set_option maxRecDepth 100000
set_option maxHeartbeats 4000000
/-! Part D: comprehensions whose items are known; code that is never come to. -/
namespace Lk
open PySem PySem.Spec PyProof.Rows L2
theorem range_fm {α β : Type} (f : α → Option β) : ∀ xs : List α, (List.range xs.length).filterMap (fun i => (xs[i]?).bind f) = xs.filterMap f
  | [] => rfl
  | x :: xs => by
    rw [List.length_cons, List.range_succ_eq_map, List.filterMap_cons, List.filterMap_cons, List.filterMap_map]
    have ih := range_fm f xs
    have e : ((fun i => ((x :: xs)[i]?).bind f) ∘ Nat.succ) = fun i => (xs[i]?).bind f := by
      funext i
      simp
    rw [e, ih]
    rfl
/-- [e for t in it if ..]: which items go in, and as what, is told by f; nothing that was tracked changes -/
theorem lc_fm {α : Type} {J : It} {n : Nat} {G : Hp → Prop} {Y : Nat → Hp → V → Hp → Prop} (w : Walk J n G Y) {g : TG} {tt : TT} {te : TE} {vs : List Nat} {σ : L2.St} {H1 : Hp} {D : Addr} {Qd : Hp → Prop}
    (xs : List α) (f : α → Option V) (hn : xs.length = n) (few : n ≤ 100000) (nD : H1 D = none) (hG : ∀ H, Same H1 H → G H)
    (hs : ∀ i x a H H' (R : VK) (Rn : Hp → Prop), xs[i]? = some a → Same H1 H → Y i H x H' → (∀ H4 y, f a = some y → Same H H4 → R y H4) → (∀ H4, f a = none → Same H H4 → Rn H4) →
      g x (wipe σ vs) H' fun σ2 H2 => wipe σ2 vs = wipe σ vs ∧ tt σ2 H2 fun b H3 => if b = true then te σ2 H3 R else Rn H3)
    (hd : ∀ H, Same H1 H → H D = some (.lst (xs.filterMap f)) → Qd H) :
    ∃ W : Nat → Nat → Hp → Prop, (∃ m, W 0 m (upd H1 D (.lst []))) ∧ ∀ i m H, W i m H →
      (J.stop i H ∧ Qd H) ∨ (J.go i H ∧ ∃ Nx : Hp → Prop, (∀ H', Nx H' → ∃ m', m' < m ∧ W (i + 1) m' H') ∧ ∀ x H', J.yld i H x H' → g x (wipe σ vs) H' fun σ2 H2 => wipe σ2 vs = wipe σ vs ∧ tt σ2 H2 fun b H3 =>
        if b = true then te σ2 H3 fun y H4 => ∃ acc, H4 D = some (.lst acc) ∧ acc.length < sizeLine ∧ Nx (upd H4 D (.lst (acc ++ [y]))) else Nx H3) := by
  have len : ∀ i, ((List.range i).filterMap fun j => (xs[j]?).bind f).length ≤ i := fun i => by
    have := List.length_filterMap_le (fun j => (xs[j]?).bind f) (List.range i)
    rw [List.length_range] at this
    exact this
  refine lc_it w (fun i H => Same H1 H ∧ H D = some (.lst ((List.range i).filterMap fun j => (xs[j]?).bind f))) ⟨same_new nD, upd_same⟩ (fun i H _ p => hG H p.1) ?_ ?_
  · rintro i x H H' hi ⟨s, e⟩ y
    obtain ⟨a, ha⟩ : ∃ a, xs[i]? = some a := ⟨_, List.getElem?_eq_getElem (by omega)⟩
    refine hs i x a H H' _ _ ha s y (fun H4 z hz s4 => ?_) (fun H4 hz s4 => ?_)
    · refine ⟨_, s4 _ _ e, ?_, fun b o q => ?_, ?_⟩
      · have := len i
        rw [sizeLine_eq]
        omega
      · rw [upd_ne (ne_of_none q nD)]
        exact s4 _ _ (s _ _ q)
      · rw [upd_same, List.range_succ, List.filterMap_append]
        simp [ha, hz]
    · refine ⟨s.trans s4, ?_⟩
      rw [s4 _ _ e, List.range_succ, List.filterMap_append]
      simp [ha, hz]
  · rintro H ⟨s, e⟩
    refine hd H s ?_
    rw [e, ← hn, range_fm]
/-- what a comprehension over J asks -/
def LcR (J : It) (g : TG) (tt : TT) (te : TE) (vs : List Nat) (σ : L2.St) (H1 : Hp) (Q : VK) : Prop := ∀ D, H1 D = none → ∃ W : Nat → Nat → Hp → Prop, (∃ m, W 0 m (upd H1 D (.lst []))) ∧ ∀ i m H, W i m H →
  (J.stop i H ∧ Q (.ref D) H) ∨ (J.go i H ∧ ∃ Nx : Hp → Prop, (∀ H', Nx H' → ∃ m', m' < m ∧ W (i + 1) m' H') ∧ ∀ x H', J.yld i H x H' → g x (wipe σ vs) H' fun σ2 H2 => wipe σ2 vs = wipe σ vs ∧ tt σ2 H2 fun b H3 =>
    if b = true then te σ2 H3 fun y H4 => ∃ acc, H4 D = some (.lst acc) ∧ acc.length < sizeLine ∧ Nx (upd H4 D (.lst (acc ++ [y]))) else Nx H3)
/-- a list or a tuple -/
def Sq (K : PySem.W.Frag) (H : Hp) (a : Addr) (xs : List V) : Prop := SqL K H a xs ∨ SqT K H a xs
theorem sqT_same {K : PySem.W.Frag} {H H' : Hp} {a : Addr} {xs : List V} (e : Same H H') (h : SqT K H a xs) : SqT K H' a xs := by
  rcases h with (h | ⟨o, h⟩) | h
  · exact .inl (.inl (e _ _ h))
  · exact .inl (.inr ⟨o, e _ _ h⟩)
  · exact .inr h
theorem Sq.same {K : PySem.W.Frag} {H H' : Hp} {a : Addr} {xs : List V} (h : Sq K H a xs) (e : Same H H') : Sq K H' a xs := h.elim (fun h => .inl (e.seq h)) fun h => .inr (sqT_same e h)
theorem sqL_ext {K : PySem.W.Frag} {a l : Addr} {xs : List V} {H H' : Hp} (h : SqL K H l xs) (n : l ≠ a) (x : ExtP a H H') : SqL K H' l xs := by
  rcases h with (h | ⟨o, h⟩) | h
  · exact .inl (.inl (x _ _ n h))
  · exact .inl (.inr ⟨o, x _ _ n h⟩)
  · exact .inr h
theorem sqT_ext {K : PySem.W.Frag} {a l : Addr} {xs : List V} {H H' : Hp} (h : SqT K H l xs) (n : l ≠ a) (x : ExtP a H H') : SqT K H' l xs := by
  rcases h with (h | ⟨o, h⟩) | h
  · exact .inl (.inl (x _ _ n h))
  · exact .inl (.inr ⟨o, x _ _ n h⟩)
  · exact .inr h
theorem Sq.ext {K : PySem.W.Frag} {a l : Addr} {xs : List V} {H H' : Hp} (h : Sq K H l xs) (n : l ≠ a) (x : ExtP a H H') : Sq K H' l xs := h.elim (fun h => .inl (sqL_ext h n x)) fun h => .inr (sqT_ext h n x)
/-- for .. in x, x a name that holds a list or a tuple -/
def iSeq (K : PySem.W.Frag) (i : Nat) : TI := fun σ H R => ∃ a, σ[i]? = some (some (.ref a)) ∧ (((∃ xs, SqL K H a xs) ∧ R (Itl K a) H) ∨ ((∃ xs, SqT K H a xs) ∧ R (Itt K a) H))
theorem pi_seq {X : Cx} {tg e : Expr} {i : Nat} (h1 : PI X tg e (iList X.K (tVar i))) (h2 : PI X tg e (iTup X.K (tVar i))) : PI X tg e (iSeq X.K i) := by
  constructor
  rintro pins s σ H R I ⟨a, e, ⟨hx, hr⟩ | ⟨hx, hr⟩⟩
  · exact h1.run pins s σ H R I ⟨_, e, a, rfl, hx, hr⟩
  · exact h2.run pins s σ H R I ⟨_, e, a, rfl, hx, hr⟩
theorem lc_over {α : Type} {J : It} {G : Hp → Prop} {vs0 : List V} (w : Walk J vs0.length G (YAt vs0)) {g : TG} {tt : TT} {te : TE} {vs : List Nat} {σ : L2.St} {H1 : Hp} {Q : VK}
    (xs : List α) (e : α → V) (f : α → Option V) (hv : vs0 = xs.map e) (few : xs.length ≤ 100000) (hG : ∀ H, Same H1 H → G H)
    (hs : ∀ (i : Nat) b H (R : VK) (Rn : Hp → Prop), xs[i]? = some b → Same H1 H → (∀ H4 y, f b = some y → Same H H4 → R y H4) → (∀ H4, f b = none → Same H H4 → Rn H4) →
      g (e b) (wipe σ vs) H fun σ2 H2 => wipe σ2 vs = wipe σ vs ∧ tt σ2 H2 fun c H3 => if c = true then te σ2 H3 R else Rn H3)
    (hd : ∀ D H, H1 D = none → Same H1 H → H D = some (.lst (xs.filterMap f)) → Q (.ref D) H) : LcR J g tt te vs σ H1 Q := by
  intro D nD
  have hl : vs0.length = xs.length := by rw [hv, List.length_map]
  refine lc_fm w xs f (by rw [hl]) (by rw [hl]; exact few) nD hG ?_ (fun H s e => hd D H nD s e)
  rintro i x b H H' R Rn hb s ⟨rfl, hx⟩ k1 k2
  have : x = e b := by
    rw [hv, List.getElem?_map, hb] at hx
    exact (Option.some.inj hx).symm
  subst this
  exact hs i b _ R Rn hb s k1 k2
/-- a comprehension over a list or a tuple -/
theorem seq_lc {α : Type} {K : PySem.W.Frag} {a : Addr} {g : TG} {tt : TT} {te : TE} {vs : List Nat} {σ : L2.St} {H1 : Hp} {Q : VK}
    (xs : List α) (e : α → V) (f : α → Option V) (hq : Sq K H1 a (xs.map e)) (few : xs.length ≤ 100000)
    (hs : ∀ (i : Nat) b H (R : VK) (Rn : Hp → Prop), xs[i]? = some b → Same H1 H → (∀ H4 y, f b = some y → Same H H4 → R y H4) → (∀ H4, f b = none → Same H H4 → Rn H4) →
      g (e b) (wipe σ vs) H fun σ2 H2 => wipe σ2 vs = wipe σ vs ∧ tt σ2 H2 fun c H3 => if c = true then te σ2 H3 R else Rn H3)
    (hd : ∀ D H, H1 D = none → Same H1 H → H D = some (.lst (xs.filterMap f)) → Q (.ref D) H) :
    ((∃ zs, SqL K H1 a zs) ∧ LcR (Itl K a) g tt te vs σ H1 Q) ∨ ((∃ zs, SqT K H1 a zs) ∧ LcR (Itt K a) g tt te vs σ H1 Q) := by
  rcases hq with hq | hq
  · exact .inl ⟨⟨_, hq⟩, lc_over walk_list xs e f rfl few (fun H s => s.seq hq) hs hd⟩
  · exact .inr ⟨⟨_, hq⟩, lc_over walk_tup xs e f rfl few (fun H s => sqT_same s hq) hs hd⟩
/-- what is never come to -/
theorem ps_no {X : Cx} {st : Stmt} : PS X st (fun _ _ _ => False) := ⟨fun _ _ _ _ _ _ h => h.elim⟩
theorem pss_no {X : Cx} {st : List Stmt} : PSs X st (fun _ _ _ => False) := ⟨fun _ _ _ _ _ _ h => h.elim⟩
theorem pe_no {X : Cx} {e : Expr} : PE X e (fun _ _ _ => False) := ⟨fun _ _ _ _ _ _ h => h.elim⟩
theorem pt_no {X : Cx} {e : Expr} : PT X e (fun _ _ _ => False) := ⟨fun _ _ _ _ _ _ h => h.elim⟩
theorem pw_no {X : Cx} {e : Expr} : PW X e (fun _ _ _ => False) := ⟨fun _ _ _ _ _ _ _ h => h.elim⟩
theorem iteB {A B : Prop} {c : Bool} (h : c = false) (hb : B) : if c = true then A else B := by
  rw [h]
  exact iteF hb
theorem iteA {A B : Prop} {c : Bool} (h : c = true) (ha : A) : if c = true then A else B := by
  rw [h]
  exact iteT ha
end Lk
set_option Elab.async false
set_option linter.all false
set_option maxRecDepth 100000
set_option maxHeartbeats 4000000
/-! Part T: new tuples that have no dict of their own; their methods. -/
namespace Lk
open PySem PySem.Spec PyProof.Rows L2
/-- a new tuple that is known as an object: no dict -/
def TupX (H : Hp) (a : Addr) (xs : List V) : Prop := ∃ ob, H a = some (.frz ob (.tup xs)) ∧ ob.cls = .type "tuple" ∧ ob.dict = none
theorem TupX.sq {K : PySem.W.Frag} {H : Hp} {a : Addr} {xs : List V} (h : TupX H a xs) : SqT K H a xs := by
  obtain ⟨ob, e, _⟩ := h
  exact .inl (.inr ⟨ob, e⟩)
theorem TupX.same {H H' : Hp} {a : Addr} {xs : List V} (h : TupX H a xs) (s : Same H H') : TupX H' a xs := by
  obtain ⟨ob, e, r⟩ := h
  exact ⟨ob, s _ _ e, r⟩
/-- tuple(x), x a list: a new tuple without a dict -/
def kTupX (K : PySem.W.Frag) (x : V) (H : Hp) (Q : VK) : Prop := ∃ l xs, x = .ref l ∧ SqL K H l xs ∧ ∀ a H', H a = none → Same H H' → TupX H' a xs → Q (.ref a) H'
theorem pe_tupleX {X : Cx} {a : Expr} {ta : TE} {u pos : Pos} (hg : Gl X "tuple") (hm : X.mg "tuple" = none) (ha : PE X a ta) (na : starEach [a] X.env = (false, eval a X.env) :: starEach [] X.env := by rfl) :
    PE X (.Call (.Name "tuple" u) [a] [] pos) (tThen ta (kTupX X.K)) := by
  refine ⟨fun pins s σ H Q I h => Call_ (ld_blt I hg hm boot_tuple (callWith_type1 (one_arg ha I h (fun v s2 x H2 I2 r q => ?_) na) na rfl))⟩
  obtain ⟨l, xs, rfl, sq, q⟩ := q
  obtain rfl : v = .ref l := r
  obtain ⟨its, rv, pl, few⟩ := I2.list sq
  refine call_tuple_list pl.isList (fun h' keep => ?_) (by rw [List.size_toArray, ← rv.length] <;> exact few)
  have I3 : Inv X pins σ H2 { s2 with heap := h' } := I2.kept (t' := s2.toks) keep
  have at_ : (h'.push { cls := .type "tuple", data := .seq its.toArray }).get? h'.objs.size = some { cls := .type "tuple", data := .seq its.toArray } := Heap.get?_push_size _ rfl
  have I4 : Inv X pins σ (upd H2 h'.objs.size (.frz { cls := .type "tuple", data := .seq its.toArray } (.tup xs))) { s2 with heap := h'.push { cls := .type "tuple", data := .seq its.toArray } } :=
    I3.laid (t' := s2.toks) (fun b o e => Heap.get?_push_of_some _ e) (Nat.le_refl _) (show ObjOk X.prog X.w _ _ _ (.frz _ (.tup xs)) from ⟨at_, few, its, rv, IsTup.new _ _⟩)
  have fr := I3.hok.fresh (Nat.le_refl h'.objs.size)
  exact ⟨.ref h'.objs.size, _, I4, rfl, q _ _ fr (same_new fr) ⟨_, upd_same, rfl, rfl⟩⟩
/-- t.m(e ..), t such a tuple -/
def tBMX (r : V → List V → Hp → VK → Prop) (to : TE) (t : TA) : TE := fun σ H Q => to σ H fun x H1 => (∃ a xs, x = .ref a ∧ TupX H1 a xs) ∧ t σ H1 fun vs H2 => r x vs H2 Q
theorem pe_bmX {X : Cx} {o e : Expr} {es : List Expr} {to : TE} {t : TA} {name : Str} {apos cpos : Pos} {id : String} {r : V → List V → Hp → VK → Prop} (slot : Slot "tuple" name id) (hty : typeOf (.builtin id) = pure (.type "method_descriptor")) (hm : MtR X id r) (ho : PE X o to) (ha : PA X (e :: es) t)
    (hbase : attributeBase o name X.env (eval o X.env) = eval o X.env := by rfl)
    (hfew : ((backTo cpos (starEach (e :: es) X.env)).all (fun y => !y.1) && (backToKw cpos (keywordEach [] X.env)).all (fun y => y.1.isSome) && decide ((e :: es).length + ([] : List Keyword).length + (if ([] : List Keyword).isEmpty then 0 else 1) < 30)) = true := by rfl)
    (hline : (apos.endLine == cpos.line) = true := by rfl) (hs : starEach (e :: es) X.env = (false, eval e X.env) :: starEach es X.env := by rfl) (hpl : (backTo cpos (starEach es X.env)).any (·.1) = false := by rfl) : PE X (.Call (.Attribute o name apos) (e :: es) [] cpos) (tBMX r to t) := by
  refine ⟨fun pins s σ H Q I h => wpAny_Call_method_late hbase hfew hline rfl (thn (ho.run pins s σ H _ I h) fun v s1 ⟨x, H1, I1, r1, ⟨a, xs, ex, ob, ea, ec, ed⟩, q1⟩ => ?_)⟩
  subst ex
  obtain rfl : v = .ref a := r1
  obtain ⟨at_, _⟩ := (show ObjOk X.prog X.w H1 s1.heap a (.frz ob (.tup xs)) from I1.hok a _ ea)
  refine ⟨"tuple", id, PySem.F.plainAttrs_tuple, slot, hty, ⟨ob, at_, ec⟩, fun b e => ?_, ?_⟩
  · cases e
    exact ⟨ob, at_, ed⟩
  have go := ha.run cpos pins s1 σ H1 _ I1 q1
  rw [hs] at go ⊢
  refine Calls.callWith_builtin (by show (false || (backTo cpos (starEach es X.env)).any (·.1)) = false; rw [hpl] <;> rfl) (Calls.evalArgs_plain ?_)
  exact thn go fun us s2 ⟨vs, H2, I2, r2, q2⟩ => hm pins s2 σ H2 (.ref a) vs (.ref a) us Q I2 rfl r2 q2
end Lk
set_option Elab.async false
set_option linter.all false
set_option maxRecDepth 100000
set_option maxHeartbeats 4000000
namespace K6
open PySem PySem.Spec PyProof.Rows L2 Lk
abbrev sNames : Stmt := top 71
abbrev sLotOf : Stmt := top 72
abbrev sALot : Stmt := top 75
abbrev sParts : Stmt := top 76
abbrev sPiece : Stmt := top 77
theorem perm_map {α β : Type} {f : α → β} {l1 l2 : List β} (h : l1.Perm l2) : ∀ xs : List α, l2 = xs.map f → ∃ zs : List α, zs.Perm xs ∧ l1 = zs.map f := by
  induction h with
  | nil =>
    intro xs e
    have : xs = [] := List.map_eq_nil_iff.mp e.symm
    subst this
    exact ⟨[], List.Perm.refl _, rfl⟩
  | cons x _ ih =>
    intro xs e
    cases xs with
    | nil => cases e
    | cons a xs =>
      injection e with e1 e2
      obtain ⟨zs, p, q⟩ := ih xs e2
      exact ⟨a :: zs, p.cons a, by rw [List.map_cons, ← q, ← e1]⟩
  | swap x y l =>
    intro xs e
    match xs, e with
    | a :: b :: xs, e =>
      injection e with e1 e2
      injection e2 with e2 e3
      exact ⟨b :: a :: xs, List.Perm.swap a b xs, by rw [List.map_cons, List.map_cons, ← e1, ← e2, ← e3]⟩
  | trans _ _ ih1 ih2 =>
    intro xs e
    obtain ⟨ys, p, q⟩ := ih2 xs e
    obtain ⟨zs, p', q'⟩ := ih1 ys q
    exact ⟨zs, p'.trans p, q'⟩
theorem Sel.map {α β : Type} {f : α → β} {ys : List β} {xs : List α} (h : Sel ys (xs.map f)) : ∃ zs, ys = zs.map f ∧ Sel zs xs := by
  obtain ⟨rs, p⟩ := h
  obtain ⟨ws, q, e⟩ := perm_map p xs rfl
  have e1 : ys = (ws.take ys.length).map f := by rw [List.map_take, ← e, List.take_left]
  refine ⟨ws.take ys.length, e1, ws.drop ys.length, ?_⟩
  rw [List.take_append_drop]
  exact q
theorem inV_str (z : Str) : ∀ zs : List Str, inV (.str z) (zs.map V.str) = decide (z ∈ zs)
  | [] => rfl
  | y :: ys => by
    show (eqV (.str y) (.str z) || inV (.str z) (ys.map V.str)) = _
    rw [inV_str z ys]
    by_cases e : z = y
    · subst e
      simp [eqV]
    · have e' : ¬ y = z := fun q => e q.symm
      simp [eqV, e, e']
theorem flat_strs : ∀ zs : List Str, (zs.map V.str).all flatV = true
  | [] => rfl
  | _ :: ys => by
    show (true && (ys.map V.str).all flatV) = true
    rw [flat_strs ys]
    rfl
section
variable {P : Program} {w : World} {K : PySem.W.Frag} {mg : Str → Option Value} {base : Heap} {f : Addr} {fd : FuncData}
/-! ### _law_names -/
def namePool : List Str := ["a", "b", "c", "d", "e", "f", "keeper", "parts", "write", "ask", "zzzzzzzz", "x"]
def partPool : List Str := ["x", "y", "z", "w", "keeper", "a"]
def spNames : Sp := fun vs H Q _ => ∃ (a : Addr) (fw up : Int) (N : Nat), vs = [.ref a, .int fw, .int up] ∧ PotAt a N H ∧ N ≤ 100000 ∧ 0 ≤ fw ∧ fw ≤ up ∧ up ≤ 12 ∧
  ∀ (ys : List Str) (p : Addr) (H' : Hp), Sel ys namePool → fw ≤ ys.length → ys.length ≤ up → ExtP a H H' → PotAt a (N + 20) H' → H p = none → TupX H' p (ys.map V.str) → Q (.ref p) H'
theorem scNames : FnScope ["pot", "few", "upmost", "pool"] ["pot", "few", "upmost"] (defScope sNames) := ⟨rfl, rfl, rfl, by decide +kernel, rfl, by decide +kernel, by decide +kernel⟩
theorem ok_names {f1 f2 : Addr} {fd1 fd2 : FuncData} (F : Fun K "_law_names" "_law_names" sNames f fd) (T : Bl mg) (hT : mg "tuple" = none) (F1 : Fun K "_law_take" "_law_take" sTake f1 fd1) (b1 : Binds K fd1 ["pot", "upto"] []) (m1 : mg "_law_take" = some (.ref f1))
    (F2 : Fun K "_law_some" "_law_some" sSome f2 fd2) (b2 : Binds K fd2 ["pot", "pool", "amount"] []) (m2 : mg "_law_some" = some (.ref f2)) : FnOk P w K mg base CX0 3 f fd ["pot", "few", "upmost"] spNames := by
  have G1 : FnOk P w K mg base CX0 1 f1 fd1 ["pot", "upto"] spTake := ok_take F1 T
  have G2 : FnOk P w K mg base CX0 2 f2 fd2 ["pot", "pool", "amount"] (spSome K) := ok_some F2 T F1 b1 m1
  refine F.ok scNames (fun vs H Q E h => ?_) (fun cdv A outer s H vs Q E hr h => ?_)
  · obtain ⟨a, fw, up, N, rfl, _⟩ := h
    rfl
  · obtain ⟨a, fw, up, N, rfl, hp, hN, f0, fu, u12, k⟩ := h
    have nd := scNames.nd
    have hr1 : Room 1 _ := hr.mono (by decide)
    have hr2 : Room 2 _ := hr.mono (by decide)
    refine ⟨_, pss_cons (ps_set (i := 3) nd rfl (.inl rfl) (pe_lst (by exact (pa_cons pe_str (pa_cons pe_str (pa_cons pe_str (pa_cons pe_str (pa_cons pe_str (pa_cons pe_str (pa_cons pe_str (pa_cons pe_str (pa_cons pe_str (pa_cons pe_str (pa_cons pe_str (pa_cons pe_str pa_nil))))))))))))))
      ) (pss_one (ps_ret (pe_tupleX (by rfl) hT (pe_call G2 hr2 rfl m2 F2.kp b2 .nil pass0 (pa_cons (pv 0) (pa_cons (pv 3) (pa_cons (pe_op op_add (pv 1) (pe_call G1 hr1 rfl m1 F1.kp b1 .nil pass0 (pa_cons (pv 0) (pa_cons (pe_op op_add (pe_op op_sub (pv 2) (pv 1)) pe_int) pa_nil)))) pa_nil))))))), ?_⟩
    refine ⟨few_ok rfl, fun l nl => ?_⟩
    have s1 : Same H (upd H l (.lst (namePool.map V.str))) := same_new nl
    have hl : (upd H l (.lst (namePool.map V.str))) l = some (.lst (namePool.map V.str)) := upd_same
    have la : l ≠ a := fun z => hp.ne (by rw [← z]; exact nl)
    refine ⟨_, rfl, _, rfl, _, rfl, _, rfl, _, rfl, _, rfl, _, _, rfl, rfl, _, _, rfl, rfl, a, _, N, rfl, hp.same s1, by omega, by omega, by omega, fun i H2 i0 i1 x2 p2 => ?_⟩
    refine ⟨_, _, rfl, rfl, a, l, fw + i, N + 1, namePool.map V.str, rfl, p2, by omega, .inl (SqL.of (x2 _ _ la hl)), by omega, by show fw + i ≤ 12; omega, by decide, fun ys p H' sel hy ex pt np ns e => ?_⟩
    obtain ⟨zs, rfl, sz⟩ := sel.map
    rw [List.length_map] at hy
    refine ⟨p, _, rfl, SqL.of e, fun q H3 nq s3 tq => ?_⟩
    have X : ExtP a H H' := ((ExtP.of s1).trans x2).trans ex
    have qa : q ≠ a := fun z => pt.ne (by rw [← z]; exact nq)
    exact k zs q H3 sz (by omega) (by omega) (X.trans (.of s3)) ((pt.same s3).mono (by omega)) (by
      cases z : H q with
      | none => rfl
      | some u => rw [X _ _ qa z] at nq; cases nq) tq
theorem fm_if (q : Str → Prop) [DecidablePred q] : ∀ ps : List Str, ps.filterMap (fun x => if q x then some (V.str x) else none) = (ps.filter fun x => decide (q x)).map V.str
  | [] => rfl
  | p :: ps => by
    have ih := fm_if q ps
    by_cases h : q p
    · simp [List.filterMap_cons, List.filter_cons, h, ih]
    · simp [List.filterMap_cons, List.filter_cons, h, ih]
/-! ### _law_lot_of -/
def spLotOf (K : PySem.W.Frag) : Sp := fun vs H Q _ => ∃ (n s : Addr) (ns ss : List Str), vs = [.ref n, .ref s] ∧ Sq K H n (ns.map V.str) ∧ Sq K H s (ss.map V.str) ∧ ns.length ≤ 100 ∧
  ∀ p H', Same H H' → H p = none → H' p = some (.tup ((ns.filter fun p => decide (p ∈ ss)).map V.str)) → Q (.ref p) H'
theorem scLotOf : FnScope ["names", "some", "name"] ["names", "some"] (defScope sLotOf) := ⟨rfl, rfl, rfl, by decide +kernel, rfl, by decide +kernel, by decide +kernel⟩
theorem ok_lotOf (F : Fun K "_law_lot_of" "_law_lot_of" sLotOf f fd) (hT : mg "tuple" = none) : FnOk P w K mg base CX0 1 f fd ["names", "some"] (spLotOf K) := by
  refine F.ok scLotOf (fun vs H Q E h => ?_) (fun cdv A outer s H vs Q E hr h => ?_)
  · obtain ⟨n, q, ns, ss, rfl, _⟩ := h
    rfl
  · obtain ⟨n, q, ns, ss, rfl, hn, hs, n100, k⟩ := h
    have nd := scLotOf.nd
    refine ⟨_, pss_one (ps_ret (pe_tupleOf (by rfl) hT (pe_lc (own := [("name", 2)]) (g := gName 2) (tt := tTest (tOp (rIn K false) (tVar 2) (tVar 1))) rfl nd (pi_seq (pi_list (pv 0)) (pi_tup (pv 0))) (blkOk_by (N := ["names", "some", "name"]) (sc := defScope sLotOf) (by decide +kernel))
        (fun _ _ _ _ _ => pg_name (i := 2) nd rfl (Or.inl rfl)) (fun _ _ _ _ _ => pts_one (pt_cmpR op_in_seq (pv 2) (pv 1) rfl)) (fun _ _ _ _ _ => pv 2)))), ?_⟩
    refine ⟨n, rfl, seq_lc (Q := fun x H1 => kTup K x H1 Q) ns V.str (fun p => if p ∈ ss then some (V.str p) else none) hn (by omega) ?_ ?_⟩
    · intro j b H' R Rn hb s' k1 k2
      refine ⟨rfl, _, rfl, _, rfl, q, _, rfl, hs.same s', rfl, flat_strs _, _, rfl, ?_⟩
      rw [inV_str]
      by_cases hz : b ∈ ss
      · refine iteA (by simp [hz]) ?_
        exact ⟨_, rfl, k1 _ _ (by simp [hz]) (Same.refl _)⟩
      · refine iteB (by simp [hz]) ?_
        exact k2 _ (by simp [hz]) (Same.refl _)
    · intro D H' nD s' e
      rw [fm_if] at e
      exact .inl ⟨D, _, rfl, SqL.of e, fun T nT => k T _ (s'.trans (same_new nT)) (s'.free nT) upd_same⟩
/-! ### _law_a_lot -/
theorem filter_sel {ns zs : List Str} (h : Sel zs ns) (nd : ns.Nodup) : (ns.filter fun p => decide (p ∈ zs)).length = zs.length := by
  have p : (ns.filter fun p => decide (p ∈ zs)).Perm zs := by
    refine (List.perm_ext_iff_of_nodup (nd.filter _) (h.nodup nd)).mpr fun x => ?_
    rw [List.mem_filter]
    constructor
    · intro q
      exact of_decide_eq_true q.2
    · intro q
      exact ⟨h.sub x q, decide_eq_true q⟩
  exact p.length_eq
def spALot (K : PySem.W.Frag) : Sp := fun vs H Q _ => ∃ (a n : Addr) (fw : Int) (N : Nat) (ns : List Str), vs = [.ref a, .ref n, .int fw] ∧ PotAt a N H ∧ N ≤ 100000 ∧ n ≠ a ∧ Sq K H n (ns.map V.str) ∧ ns.Nodup ∧ ns.length ≤ 12 ∧ 0 ≤ fw ∧ fw ≤ ns.length ∧
  ∀ (zs : List Str) (p : Addr) (H' : Hp), zs.Sublist ns → fw ≤ zs.length → ExtP a H H' → PotAt a (N + 20) H' → H p = none → H' p = some (.tup (zs.map V.str)) → Q (.ref p) H'
theorem scALot : FnScope ["pot", "names", "few"] ["pot", "names", "few"] (defScope sALot) := ⟨rfl, rfl, rfl, by decide +kernel, rfl, by decide +kernel, by decide +kernel⟩
theorem ok_aLot {f1 f2 f3 : Addr} {fd1 fd2 fd3 : FuncData} (F : Fun K "_law_a_lot" "_law_a_lot" sALot f fd) (T : Bl mg) (hT : mg "tuple" = none) (F1 : Fun K "_law_take" "_law_take" sTake f1 fd1) (b1 : Binds K fd1 ["pot", "upto"] []) (m1 : mg "_law_take" = some (.ref f1))
    (F2 : Fun K "_law_some" "_law_some" sSome f2 fd2) (b2 : Binds K fd2 ["pot", "pool", "amount"] []) (m2 : mg "_law_some" = some (.ref f2)) (F3 : Fun K "_law_lot_of" "_law_lot_of" sLotOf f3 fd3) (b3 : Binds K fd3 ["names", "some"] []) (m3 : mg "_law_lot_of" = some (.ref f3)) :
    FnOk P w K mg base CX0 3 f fd ["pot", "names", "few"] (spALot K) := by
  have G1 : FnOk P w K mg base CX0 1 f1 fd1 ["pot", "upto"] spTake := ok_take F1 T
  have G2 : FnOk P w K mg base CX0 2 f2 fd2 ["pot", "pool", "amount"] (spSome K) := ok_some F2 T F1 b1 m1
  have G3 : FnOk P w K mg base CX0 1 f3 fd3 ["names", "some"] (spLotOf K) := ok_lotOf F3 hT
  refine F.ok scALot (fun vs H Q E h => ?_) (fun cdv A outer s H vs Q E hr h => ?_)
  · obtain ⟨a, n, fw, N, ns, rfl, _⟩ := h
    rfl
  · obtain ⟨a, n, fw, N, ns, rfl, hp, hN, na, hn, nn, n12, f0, fn, k⟩ := h
    have nd := scALot.nd
    have hr1 : Room 1 _ := hr.mono (by decide)
    have hr2 : Room 2 _ := hr.mono (by decide)
    refine ⟨_, pss_one (ps_ret (pe_call G3 hr1 (by rfl) m3 F3.kp b3 .nil pass0 (pa_cons (pv 1) (pa_cons (pe_call G2 hr2 (by rfl) m2 F2.kp b2 .nil pass0 (pa_cons (pv 0) (pa_cons (pv 1) (pa_cons (pe_op op_add (pv 2) (pe_call G1 hr1 (by rfl) m1 F1.kp b1 .nil pass0 (pa_cons (pv 0)
        (pa_cons (pe_op op_add (pe_op op_sub (pe_callB call_len_seq (by rfl) T.len PySem.boot_len (pa_cons (pv 1) pa_nil)) (pv 2)) pe_int) pa_nil)))) pa_nil)))) pa_nil)))), ?_⟩
    refine ⟨_, rfl, _, rfl, _, rfl, _, rfl, _, rfl, _, rfl, n, _, rfl, hn, _, rfl, _, _, rfl, rfl, _, _, rfl, rfl, a, _, N, rfl, hp, by omega, by rw [List.length_map]; omega, by rw [List.length_map]; omega, fun i H2 i0 i1 x2 p2 => ?_⟩
    rw [List.length_map] at i1
    refine ⟨_, _, rfl, rfl, a, n, fw + i, N + 1, ns.map V.str, rfl, p2, by omega, hn.ext na x2, by omega, by rw [List.length_map]; omega, by rw [List.length_map]; omega, fun ys p H3 sel hy x3 p3 np nsp e => ?_⟩
    obtain ⟨zs, rfl, sz⟩ := sel.map
    rw [List.length_map] at hy
    refine ⟨n, p, ns, zs, rfl, (hn.ext na x2).ext na x3, .inl (SqL.of e), by omega, fun q H4 s4 nq eq => ?_⟩
    have X : ExtP a H H3 := x2.trans x3
    have qa : q ≠ a := fun z => p3.ne (by rw [← z]; exact nq)
    exact k _ q H4 List.filter_sublist (by rw [filter_sel sz nn]; omega) (X.trans (.of s4)) ((p3.same s4).mono (by omega)) (by
      cases z : H q with
      | none => rfl
      | some u => rw [X _ _ qa z] at nq; cases nq) eq
/-! ### _law_parts -/
def spParts : Sp := fun vs H Q _ => ∃ (a : Addr) (up : Int) (N : Nat), vs = [.ref a, .int up] ∧ PotAt a N H ∧ N ≤ 100000 ∧ 1 ≤ up ∧ up ≤ 4 ∧
  ∀ (ys : List Str) (p : Addr) (H' : Hp), Sel ys partPool → 1 ≤ ys.length → ys.length ≤ up → ExtP a H H' → PotAt a (N + 10) H' → H p = none → H' p = some (.tup (ys.map V.str)) → Q (.ref p) H'
theorem scParts : FnScope ["pot", "upmost"] ["pot", "upmost"] (defScope sParts) := ⟨rfl, rfl, rfl, by decide +kernel, rfl, by decide +kernel, by decide +kernel⟩
theorem ok_parts {f1 f2 : Addr} {fd1 fd2 : FuncData} (F : Fun K "_law_parts" "_law_parts" sParts f fd) (T : Bl mg) (hT : mg "tuple" = none) (F1 : Fun K "_law_take" "_law_take" sTake f1 fd1) (b1 : Binds K fd1 ["pot", "upto"] []) (m1 : mg "_law_take" = some (.ref f1))
    (F2 : Fun K "_law_some" "_law_some" sSome f2 fd2) (b2 : Binds K fd2 ["pot", "pool", "amount"] []) (m2 : mg "_law_some" = some (.ref f2)) : FnOk P w K mg base CX0 3 f fd ["pot", "upmost"] spParts := by
  have G1 : FnOk P w K mg base CX0 1 f1 fd1 ["pot", "upto"] spTake := ok_take F1 T
  have G2 : FnOk P w K mg base CX0 2 f2 fd2 ["pot", "pool", "amount"] (spSome K) := ok_some F2 T F1 b1 m1
  refine F.ok scParts (fun vs H Q E h => ?_) (fun cdv A outer s H vs Q E hr h => ?_)
  · obtain ⟨a, up, N, rfl, _⟩ := h
    rfl
  · obtain ⟨a, up, N, rfl, hp, hN, u1, u4, k⟩ := h
    have nd := scParts.nd
    have hr1 : Room 1 _ := hr.mono (by decide)
    have hr2 : Room 2 _ := hr.mono (by decide)
    refine ⟨_, pss_one (ps_ret (pe_tupleOf (by rfl) hT (pe_call G2 hr2 (by rfl) m2 F2.kp b2 .nil pass0 (pa_cons (pv 0) (pa_cons (pe_lst (by exact (pa_cons pe_str (pa_cons pe_str (pa_cons pe_str (pa_cons pe_str (pa_cons pe_str (pa_cons pe_str pa_nil))))))))
        (pa_cons (pe_op op_add pe_int (pe_call G1 hr1 (by rfl) m1 F1.kp b1 .nil pass0 (pa_cons (pv 0) (pa_cons (pv 1) pa_nil)))) pa_nil)))))), ?_⟩
    refine ⟨_, rfl, few_ok rfl, fun l nl => ⟨_, rfl, _, rfl, a, up, N, rfl, hp.same (same_new nl), by omega, by omega, by omega, fun i H1 i0 i1 x1 p1 => ?_⟩⟩
    have la : l ≠ a := fun z => hp.ne (by rw [← z]; exact nl)
    have hl1 : H1 l = some (.lst (partPool.map V.str)) := x1 _ _ la upd_same
    refine ⟨_, _, rfl, rfl, a, l, 1 + i, N + 1, partPool.map V.str, rfl, p1, by omega, .inl (SqL.of hl1), by omega, by show (1 : Int) + i ≤ 6; omega, by decide, fun ys pa H2 sel hy x2 p2 npa nspa epa => ?_⟩
    obtain ⟨ps, rfl, sp⟩ := sel.map
    rw [List.length_map] at hy
    refine .inl ⟨pa, _, rfl, SqL.of epa, fun q nq => ?_⟩
    have X : ExtP a H H2 := ((ExtP.of (same_new nl)).trans x1).trans x2
    have qa : q ≠ a := fun z => p2.ne (by rw [← z]; exact nq)
    exact k ps q _ sp (by omega) (by omega) (X.trans (.of (same_new nq))) ((p2.same (same_new nq)).mono (by omega)) (by
      cases z : H q with
      | none => rfl
      | some u => rw [X _ _ qa z] at nq; cases nq) upd_same
/-! ### _law_piece -/
/-- a piece: some parts, in their sequence -/
def PieceOk (ps piece : List Str) : Prop := piece ≠ [] ∧ piece = ps.filter fun p => decide (p ∈ piece)
def spPiece (K : PySem.W.Frag) : Sp := fun vs H Q _ => ∃ (a l : Addr) (N : Nat) (ps : List Str), vs = [.ref a, .ref l] ∧ PotAt a N H ∧ N ≤ 100000 ∧ Sq K H l (ps.map V.str) ∧ l ≠ a ∧
  0 < ps.length ∧ ps.length ≤ 4 ∧
  ∀ (piece : List Str) (p : Addr) (H' : Hp), PieceOk ps piece → ExtP a H H' → PotAt a (N + 10) H' → H p = none → H' p = some (.tup (piece.map V.str)) → Q (.ref p) H'
def tAmt (K : PySem.W.Frag) : TE := fun σ H Q => ∃ (a l : Addr) (N : Nat) (ps : List Str), σ[0]? = some (some (.ref a)) ∧ σ[1]? = some (some (.ref l)) ∧ PotAt a N H ∧ N ≤ 100000 ∧ Sq K H l (ps.map V.str) ∧ l ≠ a ∧ 0 < ps.length ∧ ps.length ≤ 4 ∧
  ∀ (n : Int) (H1 : Hp), 1 ≤ n → n ≤ ps.length → ExtP a H H1 → PotAt a (N + 2) H1 → Q (.int n) H1
theorem scPiece : FnScope ["pot", "parts", "amount"] ["pot", "parts"] (defScope sPiece) := ⟨rfl, rfl, rfl, by decide +kernel, rfl, by decide +kernel, by decide +kernel⟩
theorem ok_piece {f1 f2 f3 : Addr} {fd1 fd2 fd3 : FuncData} (F : Fun K "_law_piece" "_law_piece" sPiece f fd) (T : Bl mg) (hT : mg "tuple" = none) (F1 : Fun K "_law_take" "_law_take" sTake f1 fd1) (b1 : Binds K fd1 ["pot", "upto"] []) (m1 : mg "_law_take" = some (.ref f1))
    (F2 : Fun K "_law_some" "_law_some" sSome f2 fd2) (b2 : Binds K fd2 ["pot", "pool", "amount"] []) (m2 : mg "_law_some" = some (.ref f2)) (F3 : Fun K "_law_lot_of" "_law_lot_of" sLotOf f3 fd3) (b3 : Binds K fd3 ["names", "some"] []) (m3 : mg "_law_lot_of" = some (.ref f3)) :
    FnOk P w K mg base CX0 3 f fd ["pot", "parts"] (spPiece K) := by
  have G1 : FnOk P w K mg base CX0 1 f1 fd1 ["pot", "upto"] spTake := ok_take F1 T
  have G2 : FnOk P w K mg base CX0 2 f2 fd2 ["pot", "pool", "amount"] (spSome K) := ok_some F2 T F1 b1 m1
  have G3 : FnOk P w K mg base CX0 1 f3 fd3 ["names", "some"] (spLotOf K) := ok_lotOf F3 hT
  refine F.ok scPiece (fun vs H Q E h => ?_) (fun cdv A outer s H vs Q E hr h => ?_)
  · obtain ⟨a, l, N, ps, rfl, _⟩ := h
    rfl
  · obtain ⟨a, l, N, ps, rfl, hp, hN, hl, nla, p0, p4, k⟩ := h
    have nd := scPiece.nd
    have hr1 : Room 1 _ := hr.mono (by decide)
    have hr2 : Room 2 _ := hr.mono (by decide)
    refine ⟨_, pss_cons (ps_set (i := 2) nd rfl (.inl rfl) (pe_imp (t' := tAmt K) (pe_ifExp (pt_cmpR op_eq (pe_call G1 hr1 (by rfl) m1 F1.kp b1 .nil pass0 (pa_cons (pv 0) (pa_cons pe_int pa_nil))) pe_int (nomark _)) pe_int
          (pe_op op_add pe_int (pe_call G1 hr1 (by rfl) m1 F1.kp b1 .nil pass0 (pa_cons (pv 0) (pa_cons (pe_callB call_len_seq (by rfl) T.len PySem.boot_len (pa_cons (pv 1) pa_nil)) pa_nil))))) ?_))
      (pss_one (ps_ret (pe_call G3 hr1 (by rfl) m3 F3.kp b3 .nil pass0 (pa_cons (pv 1) (pa_cons (pe_call G2 hr2 (by rfl) m2 F2.kp b2 .nil pass0 (pa_cons (pv 0) (pa_cons (pv 1) (pa_cons (pv 2) pa_nil)))) pa_nil))))), ?_⟩
    · rintro σ H' Q' ⟨a, l, N, ps, e0, e1, hp, hN, hl, nla, p0, p4, q⟩
      refine ⟨_, e0, a, 2, N, rfl, hp, by omega, by decide, by decide, fun i H1 i0 i1 x1 p1 => ?_⟩
      refine ⟨rfl, _, rfl, ?_⟩
      refine ite2 (fun _ => q 1 H1 (by decide) (by omega) x1 (p1.mono (by omega))) (fun _ => ?_)
      refine ⟨_, e0, _, e1, l, _, rfl, hl.ext nla x1, a, _, N + 1, rfl, p1, by omega, by rw [List.length_map]; omega, by rw [List.length_map]; omega, fun j H2 j0 j1 x2 p2 => ?_⟩
      rw [List.length_map] at j1
      exact ⟨_, _, rfl, rfl, q _ H2 (by omega) (by omega) (x1.trans x2) p2⟩
    refine ⟨a, l, N, ps, rfl, rfl, hp, hN, hl, nla, p0, p4, fun n H1 n1 n2 x1 p1 => ?_⟩
    refine ⟨_, rfl, _, rfl, _, rfl, _, rfl, a, l, n, N + 2, ps.map V.str, rfl, p1, by omega, hl.ext nla x1, by omega, by rw [List.length_map]; omega, by rw [List.length_map]; omega, fun ys q H2 sel hy x2 p2 nq nsq eq => ?_⟩
    obtain ⟨zs, rfl, sz⟩ := sel.map
    rw [List.length_map] at hy
    have hl2 : Sq K H2 l (ps.map V.str) := (hl.ext nla x1).ext nla x2
    refine ⟨l, q, ps, zs, rfl, hl2, .inl (SqL.of eq), by omega, fun t H3 s3 nt et => ?_⟩
    have X : ExtP a H H2 := x1.trans x2
    have ta : t ≠ a := fun z => p2.ne (by rw [← z]; exact nt)
    refine k _ t H3 ⟨?_, ?_⟩ (X.trans (.of s3)) ((p2.same s3).mono (by omega)) (by
      cases z : H t with
      | none => rfl
      | some u => rw [X _ _ ta z] at nt; cases nt) et
    · intro z0
      match zs, hy, sz with
      | [], hy, _ => simp at hy; omega
      | y :: ys, _, sz =>
        have hy2 : y ∈ ps := sz.sub y List.mem_cons_self
        have : y ∈ ps.filter fun p => decide (p ∈ y :: ys) := List.mem_filter.mpr ⟨hy2, by simp⟩
        rw [z0] at this
        cases this
    · refine List.filter_congr fun p hp => ?_
      simp [List.mem_filter, hp]
end
end K6
set_option Elab.async false
set_option linter.all false
set_option maxRecDepth 100000
set_option maxHeartbeats 4000000
/-! Part E: == by an own __eq__, whatever it answers and whatever stands on the right. -/
namespace Lk
open PySem PySem.Spec PyProof.Rows L2
/-- x == y, x an instance of the class at C whose __eq__ keeps the promise sp -/
def rEqI (K : PySem.W.Frag) (C : Addr) (sp : Sp) : R2 := fun x y H Q => ∃ a dx fs t, x = .ref a ∧ H a = some (.ins C dx fs) ∧ TyX K H y t ∧ PySem.W.notFirst K C t = true ∧ sp [x, y] H (fun v H' => ∃ b, v = .bl b ∧ Q v H') E0
theorem op_eqI {X : Cx} {C f : Addr} {n : Nat} {fd : FuncData} {ps : List Str} {sp : Sp} (F : FnOk X.prog X.w X.K X.mg X.base CX0 n f fd ps sp) (hs : PySem.W.findIn X.K (.ref C) "__eq__" = some (some (.ref f))) (hf : PySem.W.isFn X.K (.ref f) = true) (hb : Binds X.K fd ps []) (hr : Room n X.A) :
    OpR X (compareOp .Eq) (rEqI X.K C sp) := by
  rintro pins s σ H x y v u Q I rx ry ⟨a, dx, fs, t, rfl, ha, ty, nf, hsp⟩
  obtain rfl : v = .ref a := rx
  obtain ⟨mA, J, _⟩ := ins_get I.hok ha
  obtain ⟨od, J, _⟩ := J.look
  obtain ⟨m, fr⟩ := I.fr
  obtain ⟨Z, kit, hZ, _⟩ := kit_of I ry ty
  show wpAny (model X.prog X.w) X.A (richCompare .Eq (.ref a) u) (EP X pins σ Q) X.xe s
  refine PySem.W.cmp_K (op := .Eq) (tb := t) hr.units0 fr I.ok.mod.kin J (kit.ty _ _ I.kIn hZ) nf hs hf ?_
  have rel : Vals [V.ref a, y] [Value.ref a, u] := .cons rfl (.cons ry .nil)
  have len := F.len _ _ _ _ hsp
  have bind := hb s [Value.ref a, u] I.kIn (by simpa using len)
  rw [List.append_nil] at bind
  refine wpAny_call (codeAny_mono (F.run X.A X.stack s H ⟨[.ref a, u], []⟩ [.ref a, u] [.ref a, y] _ E0 hr I.env0 bind rel hsp) fun r s' hq => ?_)
  cases r with
  | error e => exact hq.elim
  | ok fl =>
    cases fl with
    | ret w =>
      obtain ⟨z, H', J', rz, b, rfl, q⟩ := I.after hq
      cases rz
      exact ⟨.bl b, H', J', rfl, q⟩
    | next => exact False.elim hq
    | brk => exact False.elim hq
    | cont => exact False.elim hq
/-- the class at C has an own __eq__ at f, no __ne__, and no class above it but object -/
def NeC (K : PySem.W.Frag) (C f : Addr) : Prop := ∀ (h : Heap) (x : Addr) (o : Obj), K.In h → h.get? x = some o → o.cls = .ref C → h.OwnEqNoNe x C f "object" [.type "object"]
/-- x != y of two instances of such a class -/
def rNeI (C : Addr) (sp : Sp) : R2 := fun x y H Q => ∃ a b dx dy fs gs, x = .ref a ∧ y = .ref b ∧ H a = some (.ins C dx fs) ∧ H b = some (.ins C dy gs) ∧ sp [x, y] H (fun v H' => ∃ r, v = .bl r ∧ Q (.bl (!r)) H') E0
theorem op_neI {X : Cx} {C f : Addr} {n : Nat} {fd : FuncData} {ps : List Str} {sp : Sp} (F : FnOk X.prog X.w X.K X.mg X.base CX0 n f fd ps sp) (N : NeC X.K C f) (hb : Binds X.K fd ps []) (hr : Room (n + 1) X.A) : OpR X (compareOp .NotEq) (rNeI C sp) := by
  rintro pins s σ H x y v u Q I rx ry ⟨a, b, dx, dy, fs, gs, rfl, rfl, ha, hb2, hsp⟩
  obtain rfl : v = .ref a := rx
  obtain rfl : u = .ref b := ry
  obtain ⟨mA, J, _⟩ := ins_get I.hok ha
  obtain ⟨mB, J2, _⟩ := ins_get I.hok hb2
  obtain ⟨od, J, _⟩ := J.look
  obtain ⟨od2, J2, _⟩ := J2.look
  have sb : Sub X (n + 1) X.A := ⟨hr, rfl⟩
  have e := I.env0
  have e1 : Env0 X.prog X.w X.K X.mg X.base X.A.in1 X.stack s H := ⟨by rw [sb.in1.fr]; exact e.frames, e.mod, e.bs, e.bsz, e.funs, e.frf, e.hok, e.bare⟩
  have rel : Vals [V.ref a, V.ref b] [Value.ref a, Value.ref b] := .cons rfl (.cons rfl .nil)
  have len := F.len _ _ _ _ hsp
  have bind := hb s [Value.ref a, Value.ref b] I.kIn (by simpa using len)
  rw [List.append_nil] at bind
  obtain ⟨hp, g, d, t, os⟩ := s
  refine compareOp_ne_ownEq PySem.F.cmp_object (N hp a _ I.kIn J.at_ J.cls) J2.at_ J2.cls (by have := hr.units; omega) ?_
  refine wpAny_call (codeAny_mono (F.run X.A.in1 X.stack _ H ⟨[.ref a, .ref b], []⟩ [.ref a, .ref b] [.ref a, .ref b] _ E0 sb.in1.room e1 bind rel hsp) fun r s' hq => ?_)
  cases r with
  | error e => exact hq.elim
  | ok fl =>
    cases fl with
    | ret w =>
      obtain ⟨z, H', J', rz, r, rfl, q⟩ := I.after hq
      cases rz
      exact ⟨r, rfl, .bl (!r), H', J', rfl, q⟩
    | next => exact False.elim hq
    | brk => exact False.elim hq
    | cont => exact False.elim hq
/-- run such a method, at A: what it answers comes back in the abstract -/
theorem run_own {X : Cx} {f : Addr} {n : Nat} {fd : FuncData} {ps : List Str} {sp : Sp} {pins : List (Addr × Obj)} {s : Shared} {σ : L2.St} {H : Hp} {xs : List V} {us : List Value} {R : VK} {A : Around} (F : FnOk X.prog X.w X.K X.mg X.base CX0 n f fd ps sp) (hb : Binds X.K fd ps []) (sb : Sub X n A)
    (I : Inv X pins σ H s) (rel : Vals xs us) (hsp : sp xs H R E0) {Q : Value → Shared → Prop} {E : Value → Shared → Prop} (go : ∀ z v H' s', Inv X pins σ H' s' → RelV z v → R z H' → Q v s') : wpAny (model X.prog X.w) A (call (.ref f) us) Q E s := by
  have e := I.env0
  have e1 : Env0 X.prog X.w X.K X.mg X.base A X.stack s H := ⟨by rw [sb.fr]; exact e.frames, e.mod, e.bs, e.bsz, e.funs, e.frf, e.hok, e.bare⟩
  have len := F.len _ _ _ _ hsp
  have bind := hb s us I.kIn (by rw [List.append_nil, ← rel.length]; exact len)
  rw [List.append_nil] at bind
  refine wpAny_call (codeAny_mono (F.run A X.stack s H ⟨us, []⟩ us xs _ E0 sb.room e1 bind rel hsp) fun r s' hq => ?_)
  cases r with
  | error e => exact hq.elim
  | ok fl =>
    cases fl with
    | ret w =>
      obtain ⟨z, H', J', rz, q⟩ := I.after hq
      exact go z w H' s' J' rz q
    | next => exact False.elim hq
    | brk => exact False.elim hq
    | cont => exact False.elim hq
/-- x in y, x not in y: y an instance of the class at C with its own __contains__ -/
def rInI (C : Addr) (sp : Sp) (neg : Bool) : R2 := fun x y H Q => ∃ a dx fs, y = .ref a ∧ H a = some (.ins C dx fs) ∧ sp [y, x] H (fun v H' => ∃ b, v = .bl b ∧ Q (.bl (if neg then !b else b)) H') E0
theorem op_inI {X : Cx} {C f : Addr} {n : Nat} {fd : FuncData} {ps : List Str} {sp : Sp} (F : FnOk X.prog X.w X.K X.mg X.base CX0 n f fd ps sp) (hs : PySem.W.findIn X.K (.ref C) "__contains__" = some (some (.ref f))) (hf : PySem.W.isFn X.K (.ref f) = true) (hb : Binds X.K fd ps []) (hr : Room n X.A) :
    OpR X (compareOp .In) (rInI C sp false) := by
  rintro pins s σ H x y v u Q I rx ry ⟨a, dx, fs, rfl, ha, hsp⟩
  obtain rfl : u = .ref a := ry
  obtain ⟨mA, J, _⟩ := ins_get I.hok ha
  obtain ⟨od, J, _⟩ := J.look
  obtain ⟨m, fr⟩ := I.fr
  refine PySem.W.in_K fr I.ok.mod.kin J hs hf (run_own F hb ⟨hr, rfl⟩ I (show Vals [V.ref a, x] [Value.ref a, v] from .cons rfl (.cons rx .nil)) hsp fun z w H' s' J' rz ⟨b, ez, q⟩ => ?_)
  subst ez
  cases rz
  exact wpAny_truthy_bool ⟨.bl b, H', J', rfl, q⟩
theorem op_notInI {X : Cx} {C f : Addr} {n : Nat} {fd : FuncData} {ps : List Str} {sp : Sp} (F : FnOk X.prog X.w X.K X.mg X.base CX0 n f fd ps sp) (hs : PySem.W.findIn X.K (.ref C) "__contains__" = some (some (.ref f))) (hf : PySem.W.isFn X.K (.ref f) = true) (hb : Binds X.K fd ps []) (hr : Room n X.A) :
    OpR X (compareOp .NotIn) (rInI C sp true) := by
  rintro pins s σ H x y v u Q I rx ry ⟨a, dx, fs, rfl, ha, hsp⟩
  obtain rfl : u = .ref a := ry
  obtain ⟨mA, J, _⟩ := ins_get I.hok ha
  obtain ⟨od, J, _⟩ := J.look
  obtain ⟨m, fr⟩ := I.fr
  refine PySem.W.notIn_K fr I.ok.mod.kin J hs hf (run_own F hb ⟨hr, rfl⟩ I (show Vals [V.ref a, x] [Value.ref a, v] from .cons rfl (.cons rx .nil)) hsp fun z w H' s' J' rz ⟨b, ez, q⟩ => ?_)
  subst ez
  cases rz
  exact wpAny_truthy_bool ⟨.bl (!b), H', J', rfl, q⟩
/-- len(x), x an instance of the class at C with its own __len__ -/
def rLenI (C : Addr) (sp : Sp) : List V → Hp → VK → Prop := fun xs H Q => ∃ a dx fs, xs = [.ref a] ∧ H a = some (.ins C dx fs) ∧ sp xs H (fun v H' => ∃ k : Int, v = .int k ∧ 0 ≤ k ∧ k < 1000000 ∧ Q (.int k) H') E0
theorem call_lenI {X : Cx} {C f : Addr} {n : Nat} {fd : FuncData} {ps : List Str} {sp : Sp} (F : FnOk X.prog X.w X.K X.mg X.base CX0 n f fd ps sp) (hs : PySem.W.findIn X.K (.ref C) "__len__" = some (some (.ref f))) (hf : PySem.W.isFn X.K (.ref f) = true) (hb : Binds X.K fd ps []) (hr : Room (n + 1) X.A) :
    CallR X (.builtin "len") (rLenI C sp) := by
  rintro pins s σ H xs us Q I rel ⟨a, dx, fs, rfl, ha, hsp⟩
  obtain ⟨u, rfl, ru⟩ := vals1 rel
  obtain rfl : u = .ref a := ru
  obtain ⟨mA, J, _⟩ := ins_get I.hok ha
  obtain ⟨od, J, _⟩ := J.look
  obtain ⟨m, fr⟩ := I.fr
  have sb : Sub X (n + 1) X.A := ⟨hr, rfl⟩
  refine PySem.W.len_K fr I.ok.mod.kin J hs hf (run_own F hb sb.in1 I rel hsp fun z w H' s' J' rz ⟨k, ez, k0, k1, q⟩ => ?_)
  subst ez
  obtain ⟨t, rfl⟩ := rz
  exact ⟨⟨k0, by omega⟩, ⟨.int k, H', J'.tok _, ⟨_, rfl⟩, q⟩⟩
end Lk
set_option Elab.async false
set_option linter.all false
set_option maxRecDepth 100000
set_option maxHeartbeats 4000000
/-! Part N: in a tuple of data; a list extended by a tuple. -/
namespace Lk
open PySem PySem.Spec PyProof.Rows L2
/-- x in y, x not in y: y a tuple of data of any depth -/
def rInDT (K : PySem.W.Frag) : R2 := fun x y H Q => ∃ d ds, Dp K H x d ∧ Dp K H y (.tuple ds) ∧ SeqAt.shaped d = true ∧ SeqAt.shaped (.tuple ds) = true ∧ Q (.bl (ds.any fun z => PyData.eqv z d)) H
def rNotInDT (K : PySem.W.Frag) : R2 := fun x y H Q => ∃ d ds, Dp K H x d ∧ Dp K H y (.tuple ds) ∧ SeqAt.shaped d = true ∧ SeqAt.shaped (.tuple ds) = true ∧ Q (.bl (!(ds.any fun z => PyData.eqv z d))) H
theorem op_inDT {X : Cx} (hu : X.A.units + 65 < cLine) : OpR X (compareOp .In) (rInDT X.K) := by
  intro pins s σ H x y v u Q I rx ry h
  obtain ⟨d, ds, hd, he, sd, se, q⟩ := h
  obtain ⟨as, r1⟩ := Dp.reads I d x v hd rx
  obtain ⟨bs, r2⟩ := Dp.reads I (.tuple ds) y u he ry
  exact SeqAt.in_tuple_reads r2 r1 (SeqAt.canLay_of_shaped se) (SeqAt.canLay_of_shaped sd) (room_in_shaped sd hu) ⟨.bl _, H, I, rfl, q⟩
theorem op_notInDT {X : Cx} (hu : X.A.units + 65 < cLine) : OpR X (compareOp .NotIn) (rNotInDT X.K) := by
  intro pins s σ H x y v u Q I rx ry h
  obtain ⟨d, ds, hd, he, sd, se, q⟩ := h
  obtain ⟨as, r1⟩ := Dp.reads I d x v hd rx
  obtain ⟨bs, r2⟩ := Dp.reads I (.tuple ds) y u he ry
  exact SeqAt.notIn_tuple_reads r2 r1 (SeqAt.canLay_of_shaped se) (SeqAt.canLay_of_shaped sd) (room_in_shaped sd hu) ⟨.bl _, H, I, rfl, q⟩
theorem room64 {k : Nat} {A : Around} (r : Room k A) : A.units + 64 < cLine := by have := r.un; omega
theorem room65 {k : Nat} {A : Around} (r : Room k A) : A.units + 65 < cLine := by have := r.un; omega
theorem extend_tup (l : Addr) (items : Array Value) (n : Nat) (b : Addr) (items2 : Array Value) (n2 : Nat) (dd : Option Addr) (sl : Array (Option Value)) (hs0 : ¬(!items.isEmpty && Builtin.List.listTooLong (items.size + items2.size)) = true) (hs1 : items.size ≤ sizeLine) (hs2 : items.size + items2.size ≤ sizeLine + 1) :
    Meets (Builtin.«list.extend» ⟨[.ref l, .ref b], []⟩) (fun _ R s => s.heap.get? l = some { cls := .type "list", dict := none, data := .seq items n, slots := #[] } ∧ s.heap.get? b = some { cls := .type "tuple", dict := dd, data := .seq items2 n2, slots := sl } ∧ R (.ok (.ret Value.none)) { s with heap := s.heap.update l (Obj.mapSeq fun x => x ++ items2), toks := s.toks }) :=
  .of_wp fun prog w A R s h => by
    obtain ⟨hp, g, d, tk, os⟩ := s; obtain ⟨hl, hb, h⟩ := h; have f1 := PySem.AutoSeq1.idx_int; have f2 := PySem.AutoSeq1.sub_tuple_tuple; have f3 := PySem.AutoSeq1.sub_list_list; have f4 := PySem.AutoSeq1.sub_tuple_list; have f5 := PySem.AutoSeq1.sub_list_tuple;
    have hz' : (items ++ items2).size ≤ sizeLine + 1 := by rw [Array.size_append]; exact hs2
    wp_walk using (wpAny_updateSeq hl rfl (hz := hs1) (_hz' := hz')), PySem.AutoSeq1.wpAny_loadPart' hl, PySem.AutoSeq1.wpAny_loadPart' hb; exact ⟨_, rfl, h⟩
/-- l.extend(t), t a tuple that was made here -/
def rExtendT : V → List V → Hp → VK → Prop := fun x vs H Q => ∃ l b xs zs, x = .ref l ∧ vs = [.ref b] ∧ H l = some (.lst xs) ∧ H b = some (.tup zs) ∧ xs.length + zs.length ≤ sizeLine ∧ Q .non (upd H l (.lst (xs ++ zs)))
theorem mt_extendT {X : Cx} : MtM X "list.extend" rExtendT := by
  intro pins s σ H x vs v us Q I rx rv h
  obtain ⟨l, b, xs, zs, rfl, rfl, hH, hB, hz, q⟩ := h
  cases rx
  obtain ⟨u, rfl, ru⟩ := rv.one
  cases ru
  obtain ⟨z, its, n, r, hl, e⟩ := I.lstM hH
  obtain ⟨_, its2, r2, ⟨cls, dd, data, sls⟩, e2, hc, m, hd⟩ := (show ObjOk X.prog X.w H s.heap b (.tup _) from I.hok b _ hB)
  simp only at hc hd
  subst hc hd
  have hsz : its.toArray.size + its2.toArray.size ≤ sizeLine := by rw [List.size_toArray, List.size_toArray, ← hl, ← r2.length]; exact hz
  have hlong : ¬ (!its.toArray.isEmpty && Builtin.List.listTooLong (its.toArray.size + its2.toArray.size)) = true := by
    rw [notLongL hsz, Bool.and_false]
    exact Bool.false_ne_true
  have hl2 := r2.length
  refine call_meets F.slot_list_extend ⟨_, e, rfl⟩ F.entry_list_extend (F.args_list_extend_2 _ _)
    (extend_tup l its.toArray n b its2.toArray m dd sls hlong (by rw [List.size_toArray]; omega) (by omega)) ⟨e, e2, ?_⟩
  refine ⟨.non, _, I.lset (its' := its ++ its2) hH e (by simp) (r.append r2) ?_, rfl, q⟩
  rw [List.length_append]
  omega
end Lk
set_option Elab.async false
set_option linter.all false
set_option maxRecDepth 100000
set_option maxHeartbeats 4000000
/-! Part G: comprehensions whose items are made anew, each told by a relation. -/
namespace Lk
open PySem PySem.Spec PyProof.Rows L2
/-- what may be written in its place: lists, tables of code objects -/
inductive Mv : HO → Prop
  | lst (xs : List V) : Mv (.lst xs)
  | tbl (ps : Array Value) : Mv (.tbl ps)
/-- all but lists and tables stand -/
def Keep (H H' : Hp) : Prop := ∀ b o, H b = some o → (∀ _ : Unit, ¬ Mv o) → H' b = some o
theorem Keep.of {H H' : Hp} (s : Same H H') : Keep H H' := fun b o e _ => s b o e
theorem Keep.trans {H H1 H2 : Hp} (x : Keep H H1) (y : Keep H1 H2) : Keep H H2 := fun b o e n => y b o (x b o e n) n
theorem Keep.upd {H : Hp} {D : Addr} {xs : List V} {o : HO} (h : H D = some (.lst xs)) : Keep H (upd H D o) := fun b u e n => by
  have : b ≠ D := fun z => by
    rw [z, h] at e
    cases e
    exact n () (.lst _)
  rw [upd_ne this]
  exact e
theorem tYes_if (σ2 : L2.St) (H2 : Hp) (A B : Hp → Prop) : (tYes σ2 H2 fun c H3 => if c = true then A H3 else B H3) = A H2 := by
  show (if true = true then A H2 else B H2) = A H2
  rw [if_pos rfl]
theorem Paired.add {α β : Type} {R : α → β → Prop} : ∀ {xs : List α} {ys : List β} {x : α} {y : β}, Paired R xs ys → R x y → Paired R (xs ++ [x]) (ys ++ [y])
  | _, _, _, _, .nil, h => .cons h .nil
  | _, _, _, _, .cons a t, h => .cons a (Paired.add t h)
theorem lc_relQ {α β : Type} {J : It} {G : Hp → Prop} {vs0 : List V} (w : Walk J vs0.length G (YAt vs0)) {g : TG} {te : TE} {vs : List Nat} {σ : L2.St} {H1 : Hp} {D : Addr} {Qd : Hp → Prop} (nD : H1 D = none)
    (xs : List α) (e : α → V) (f : α → β) (Rel : Hp → V → β → Prop) (mono : ∀ H H' v b, Keep H H' → Rel H v b → Rel H' v b) (hv : vs0 = xs.map e) (few : xs.length ≤ 100000) (hG : ∀ H, Same H1 H → G H)
    (hs : ∀ (i : Nat) b H (R : VK), xs[i]? = some b → Same H1 H → (∀ H4 y, Same H H4 → Rel H4 y (f b) → R y H4) → g (e b) (wipe σ vs) H fun σ2 H2 => wipe σ2 vs = wipe σ vs ∧ te σ2 H2 R)
    (hd : ∀ H ts, Same H1 H → H D = some (.lst ts) → Paired (Rel H) ts (xs.map f) → Qd H) :
    ∃ W : Nat → Nat → Hp → Prop, (∃ m, W 0 m (upd H1 D (.lst []))) ∧ ∀ i m H, W i m H → (J.stop i H ∧ Qd H) ∨ (J.go i H ∧ ∃ Nx : Hp → Prop, (∀ H', Nx H' → ∃ m', m' < m ∧ W (i + 1) m' H') ∧ ∀ x H', J.yld i H x H' → g x (wipe σ vs) H' fun σ2 H2 => wipe σ2 vs = wipe σ vs ∧ tYes σ2 H2 fun b H3 =>
        if b = true then te σ2 H3 fun y H4 => ∃ acc, H4 D = some (.lst acc) ∧ acc.length < sizeLine ∧ Nx (upd H4 D (.lst (acc ++ [y]))) else Nx H3) := by
  have hl : vs0.length = xs.length := by rw [hv, List.length_map]
  refine lc_it w (fun j H => ∃ ts, H D = some (.lst ts) ∧ Paired (Rel H) ts ((xs.take j).map f) ∧ ts.length = j ∧ Same H1 H) ⟨[], upd_same, .nil, rfl, same_new nD⟩ (fun i H _ p => hG H (by obtain ⟨_, _, _, _, s⟩ := p; exact s)) ?_ ?_
  · rintro i x H H' hi ⟨ts, eD, pr, tl, s⟩ ⟨rfl, hx⟩
    obtain ⟨b, hb⟩ : ∃ b, xs[i]? = some b := ⟨_, List.getElem?_eq_getElem (by omega)⟩
    have ex : x = e b := by
      rw [hv, List.getElem?_map, hb] at hx
      exact (Option.some.inj hx).symm
    subst ex
    have z := hs i b _ (fun y H4 => ∃ acc, H4 D = some (.lst acc) ∧ acc.length < sizeLine ∧ ∃ ts, upd H4 D (.lst (acc ++ [y])) D = some (.lst ts) ∧ Paired (Rel (upd H4 D (.lst (acc ++ [y])))) ts ((xs.take (i + 1)).map f) ∧ ts.length = i + 1 ∧ Same H1 (upd H4 D (.lst (acc ++ [y])))) hb s fun H4 y s4 ry => by
      refine ⟨ts, s4 _ _ eD, by rw [sizeLine_eq]; omega, ts ++ [y], upd_same, ?_, by rw [List.length_append, tl]; rfl, fun c o ec => ?_⟩
      · have kp : Keep H4 (upd H4 D (.lst (ts ++ [y]))) := .upd (s4 _ _ eD)
        rw [List.take_add_one, hb, Option.toList_some, List.map_append]
        exact Paired.add (Paired.mapP pr fun v c r => mono _ _ _ _ ((Keep.of s4).trans kp) r) (mono _ _ _ _ kp ry)
      · rw [upd_ne (ne_of_none ec nD)]
        exact s4 _ _ (s _ _ ec)
    exact z
  · rintro H ⟨ts, eD, pr, tl, s⟩
    rw [hl, List.take_length] at pr
    exact hd H ts s eD pr
theorem lc_rel {α β : Type} {J : It} {G : Hp → Prop} {vs0 : List V} (w : Walk J vs0.length G (YAt vs0)) {g : TG} {te : TE} {vs : List Nat} {σ : L2.St} {H1 : Hp} {Q : VK}
    (xs : List α) (e : α → V) (f : α → β) (Rel : Hp → V → β → Prop) (mono : ∀ H H' v b, Keep H H' → Rel H v b → Rel H' v b) (hv : vs0 = xs.map e) (few : xs.length ≤ 100000) (hG : ∀ H, Same H1 H → G H)
    (hs : ∀ (i : Nat) b H (R : VK), xs[i]? = some b → Same H1 H → (∀ H4 y, Same H H4 → Rel H4 y (f b) → R y H4) → g (e b) (wipe σ vs) H fun σ2 H2 => wipe σ2 vs = wipe σ vs ∧ te σ2 H2 R)
    (hd : ∀ D H ts, H1 D = none → Same H1 H → H D = some (.lst ts) → Paired (Rel H) ts (xs.map f) → Q (.ref D) H) : LcR J g tYes te vs σ H1 Q := fun D nD =>
  lc_relQ w nD xs e f Rel mono hv few hG hs fun H ts s eD pr => hd D H ts nD s eD pr
end Lk
namespace Lk
open PySem PySem.Spec PyProof.Rows L2
/-- a walk whose turns are told of the heap alone: the clauses of a comprehension, outer or inner -/
theorem in_it {J : It} {n : Nat} {G : Hp → Prop} {Y : Nat → Hp → V → Hp → Prop} (w : Walk J n G Y) {C : (Hp → Prop) → V → Hp → Prop} {H0 : Hp} {E : Hp → Prop} (Pv : Nat → Hp → Prop) (h0 : Pv 0 H0) (hG : ∀ i H, i ≤ n → Pv i H → G H)
    (hs : ∀ i x H H', i < n → Pv i H → Y i H x H' → C (Pv (i + 1)) x H') (hd : ∀ H, Pv n H → E H) :
    ∃ W : Nat → Nat → Hp → Prop, (∃ m, W 0 m H0) ∧ ∀ j k H, W j k H → (J.stop j H ∧ E H) ∨ (J.go j H ∧ ∃ N : Hp → Prop, (∀ H', N H' → ∃ k', k' < k ∧ W (j + 1) k' H') ∧ ∀ x H', J.yld j H x H' → C N x H') := by
  refine ⟨fun i m H => m = n - i ∧ i ≤ n ∧ Pv i H, ⟨n, by simp, Nat.zero_le _, h0⟩, ?_⟩
  rintro i m H ⟨rfl, hi, p⟩
  have q := hG i H hi p
  by_cases lt : i < n
  · exact .inr ⟨w.goes i H lt q, Pv (i + 1), fun H' p' => ⟨n - (i + 1), by omega, rfl, lt, p'⟩, fun x H' y => hs i x H H' lt p (w.yields i H x H' lt q y)⟩
  · obtain rfl : i = n := by omega
    exact .inl ⟨w.stops H q, hd H p⟩
end Lk
namespace Lk
open PySem PySem.Spec PyProof.Rows L2
def KeepB (D : Addr) (H H' : Hp) : Prop := ∀ b o, b ≠ D → H b = some o → H' b = some o
/-- as lc_rel, for items that may be lists, but not the new list itself; Qd by the heap alone -/
theorem lc_relD {α β : Type} {J : It} {G : Hp → Prop} {vs0 : List V} (w : Walk J vs0.length G (YAt vs0)) {g : TG} {te : TE} {vs : List Nat} {σ : L2.St} {H1 : Hp} {D : Addr} {Qd : Hp → Prop}
    (xs : List α) (e : α → V) (f : α → β) (Rel : Hp → V → β → Prop) (nD : H1 D = none) (mono : ∀ H H' v b, KeepB D H H' → Rel H v b → Rel H' v b) (hv : vs0 = xs.map e) (few : xs.length ≤ 100000) (hG : ∀ H, Same H1 H → G H)
    (hs : ∀ (i : Nat) b H (R : VK), xs[i]? = some b → Same H1 H → H D ≠ none → (∀ H4 y, Same H H4 → Rel H4 y (f b) → R y H4) → g (e b) (wipe σ vs) H fun σ2 H2 => wipe σ2 vs = wipe σ vs ∧ te σ2 H2 R)
    (hd : ∀ H ts, Same H1 H → H D = some (.lst ts) → Paired (Rel H) ts (xs.map f) → Qd H) :
    ∃ W : Nat → Nat → Hp → Prop, (∃ m, W 0 m (upd H1 D (.lst []))) ∧ ∀ i m H, W i m H → (J.stop i H ∧ Qd H) ∨ (J.go i H ∧ ∃ Nx : Hp → Prop, (∀ H', Nx H' → ∃ m', m' < m ∧ W (i + 1) m' H') ∧ ∀ x H', J.yld i H x H' → g x (wipe σ vs) H' fun σ2 H2 => wipe σ2 vs = wipe σ vs ∧ tYes σ2 H2 fun b H3 =>
        if b = true then te σ2 H3 fun y H4 => ∃ acc, H4 D = some (.lst acc) ∧ acc.length < sizeLine ∧ Nx (upd H4 D (.lst (acc ++ [y]))) else Nx H3) := by
  have hl : vs0.length = xs.length := by rw [hv, List.length_map]
  refine lc_it w (fun j H => ∃ ts, H D = some (.lst ts) ∧ Paired (Rel H) ts ((xs.take j).map f) ∧ ts.length = j ∧ Same H1 H) ⟨[], upd_same, .nil, rfl, same_new nD⟩ (fun i H _ p => hG H (by obtain ⟨_, _, _, _, s⟩ := p; exact s)) ?_ ?_
  · rintro i x H H' hi ⟨ts, eD, pr, tl, s⟩ ⟨rfl, hx⟩
    obtain ⟨b, hb⟩ : ∃ b, xs[i]? = some b := ⟨_, List.getElem?_eq_getElem (by omega)⟩
    have ex : x = e b := by
      rw [hv, List.getElem?_map, hb] at hx
      exact (Option.some.inj hx).symm
    subst ex
    have z := hs i b _ (fun y H4 => ∃ acc, H4 D = some (.lst acc) ∧ acc.length < sizeLine ∧ ∃ ts, upd H4 D (.lst (acc ++ [y])) D = some (.lst ts) ∧ Paired (Rel (upd H4 D (.lst (acc ++ [y])))) ts ((xs.take (i + 1)).map f) ∧ ts.length = i + 1 ∧ Same H1 (upd H4 D (.lst (acc ++ [y])))) hb s (by rw [eD]; simp) fun H4 y s4 ry => by
      refine ⟨ts, s4 _ _ eD, by rw [sizeLine_eq]; omega, ts ++ [y], upd_same, ?_, by rw [List.length_append, tl]; rfl, fun c o ec => ?_⟩
      · have kp : KeepB D H4 (upd H4 D (.lst (ts ++ [y]))) := fun c o nc ec => by rw [upd_ne nc]; exact ec
        have k4 : KeepB D H' H4 := fun c o _ ec => s4 _ _ ec
        rw [List.take_add_one, hb, Option.toList_some, List.map_append]
        exact Paired.add (Paired.mapP pr fun v c r => mono _ _ _ _ kp (mono _ _ _ _ k4 r)) (mono _ _ _ _ kp ry)
      · rw [upd_ne (ne_of_none ec nD)]
        exact s4 _ _ (s _ _ ec)
    exact z
  · rintro H ⟨ts, eD, pr, tl, s⟩
    rw [hl, List.take_length] at pr
    exact hd H ts s eD pr
end Lk
set_option Elab.async false
set_option linter.all false
set_option maxRecDepth 100000
set_option maxHeartbeats 4000000
/-! Part R: data that is small enough to be compared and shown. -/
namespace Lk
open PySem PySem.Spec PyProof.Rows L2
/-- weight at most n, depth at most k, texts and ints that can be shown -/
structure Nice (n k : Nat) (d : PyData) : Prop where
  lay : d.canLay0 = true
  dep : d.depth ≤ k
  wt : d.weight ≤ n
  sh : d.intsShort 13 = true
  sw : d.showable = true
theorem Nice.mono {n k m j : Nat} {d : PyData} (h : Nice n k d) (hn : n ≤ m) (hk : k ≤ j) : Nice m j d := ⟨h.lay, Nat.le_trans h.dep hk, Nat.le_trans h.wt hn, h.sh, h.sw⟩
theorem Nice.str {x : Str} {n : Nat} (h : PyData.strOk x = true) (hl : x.length ≤ n) : Nice n 0 (.str x) :=
  ⟨by simp [PyData.canLay0, h], by simp [PyData.depth], by simpa [PyData.weight, Str.length] using hl, by simp [PyData.intsShort], by simp [PyData.showable]⟩
theorem nice_all {c k : Nat} : ∀ {ds : List PyData}, (∀ d ∈ ds, Nice c k d) → PyData.canLayAll0 ds = true ∧ PyData.depthAll ds ≤ k ∧ PyData.weightAll ds ≤ ds.length * (c + 1) ∧ PyData.intsShortAll 13 ds = true ∧ PyData.showableAll ds = true
  | [], _ => ⟨by simp [PyData.canLayAll0], by simp [PyData.depthAll], by simp [PyData.weightAll], by simp [PyData.intsShortAll], by simp [PyData.showableAll]⟩
  | d :: ds, h => by
    obtain ⟨a1, a2, a3, a4, a5⟩ := nice_all fun e he => h e (List.mem_cons_of_mem _ he)
    have hd := h d List.mem_cons_self
    refine ⟨by simp [PyData.canLayAll0, hd.lay, a1], ?_, ?_, by simp [PyData.intsShortAll, hd.sh, a4], by simp [PyData.showableAll, hd.sw, a5]⟩
    · have := hd.dep
      simp only [PyData.depthAll]
      omega
    · have := hd.wt
      have e : (d :: ds).length * (c + 1) = ds.length * (c + 1) + (c + 1) := by rw [List.length_cons, Nat.succ_mul]
      simp only [PyData.weightAll]
      omega
theorem Nice.tup {c k m : Nat} {ds : List PyData} (h : ∀ d ∈ ds, Nice c k d) (hl : ds.length ≤ m) : Nice (m * (c + 1)) (k + 1) (.tuple ds) := by
  obtain ⟨a1, a2, a3, a4, a5⟩ := nice_all h
  refine ⟨by simp [PyData.canLay0, a1], ?_, ?_, by simp [PyData.intsShort, a4], by simp [PyData.showable, a5]⟩
  · simp only [PyData.depth]
    omega
  · simp only [PyData.weight]
    exact Nat.le_trans a3 (Nat.mul_le_mul_right _ hl)
theorem Nice.lst {c k m : Nat} {ds : List PyData} (h : ∀ d ∈ ds, Nice c k d) (hl : ds.length ≤ m) : Nice (m * (c + 1)) (k + 1) (.list ds) := by
  obtain ⟨a1, a2, a3, a4, a5⟩ := nice_all h
  refine ⟨by simp [PyData.canLay0, a1], ?_, ?_, by simp [PyData.intsShort, a4], by simp [PyData.showable, a5]⟩
  · simp only [PyData.depth]
    omega
  · simp only [PyData.weight]
    exact Nat.le_trans a3 (Nat.mul_le_mul_right _ hl)
theorem Nice.shaped {n k : Nat} {d : PyData} (h : Nice n k d) (hk : k ≤ 64) : SeqAt.shaped d = true := by
  show (d.canLay0 && decide (d.depth ≤ 64)) = true
  have := h.dep
  rw [Bool.and_eq_true]
  exact ⟨h.lay, decide_eq_true (by omega)⟩
theorem Nice.fits {n k : Nat} {d : PyData} (h : Nice n k d) (hn : n ≤ 1048576) (hk : k ≤ 64) : d.shown.length ≤ sizeLine := by
  have l0 : PyData.layable0 d = true := by
    have h1 := h.dep
    have h2 := h.wt
    show (d.canLay0 && decide (d.depth ≤ 64) && decide (d.weight ≤ 2 ^ 20)) = true
    rw [Bool.and_eq_true, Bool.and_eq_true]
    exact ⟨⟨h.lay, decide_eq_true (by omega)⟩, decide_eq_true (by omega)⟩
  have := shown_le13 l0 h.sh
  rw [sizeLine_eq]
  omega
theorem Nice.eqv {n k : Nat} {d : PyData} (h : Nice n k d) : PyData.eqv d d = true := SeqAt.eqv_refl _ h.lay
/-- small ints -/
theorem nice_ints : ∀ i : Nat, i < 100 → ((PyData.int (i : Int)).intsShort 13 && ((PyData.int (i : Int)).showable && decide ((PyData.int (i : Int)).weight ≤ 8))) = true := by decide +kernel
theorem Nice.nat {i : Nat} (h : i < 100) : Nice 8 0 (.int (i : Int)) := by
  have := nice_ints i h
  rw [Bool.and_eq_true, Bool.and_eq_true] at this
  exact ⟨by simp [PyData.canLay0], by simp [PyData.depth], of_decide_eq_true this.2.2, this.1, this.2.1⟩
/-- the texts of a tuple -/
def strsD (zs : List Str) : List PyData := zs.map PyData.str
theorem dp_strs {K : PySem.W.Frag} {H : Hp} : ∀ zs : List Str, DpAll K H (zs.map V.str) (strsD zs)
  | [] => .nil
  | z :: zs => .cons (.str z) (dp_strs zs)
theorem dw_strs {H : Hp} : ∀ zs : List Str, DWs H (zs.map V.str) (strsD zs)
  | [] => .nil
  | z :: zs => .cons (.str z) (dw_strs zs)
theorem nice_strs {zs : List Str} {n m : Nat} (h : ∀ z ∈ zs, PyData.strOk z = true ∧ z.length ≤ n) (hl : zs.length ≤ m) : Nice (m * (n + 1)) 1 (.tuple (strsD zs)) := by
  refine Nice.tup (fun d hd => ?_) (by unfold strsD; rw [List.length_map]; exact hl)
  obtain ⟨z, hz, rfl⟩ := List.mem_map.mp hd
  exact .str (h z hz).1 (h z hz).2
/-- all but lists stand, where the draws' list alone was written -/
theorem Keep.ext {a : Addr} {N : Nat} {H H' : Hp} (hp : PotAt a N H) (x : ExtP a H H') : Keep H H' := fun b o e n => x b o (fun z => by
  obtain ⟨_, _, _, h, _⟩ := hp
  rw [z, h] at e
  cases e
  exact n () (.lst _)) e
theorem TupX.keep {H H' : Hp} {a : Addr} {xs : List V} (h : TupX H a xs) (k : Keep H H') : TupX H' a xs := by
  obtain ⟨ob, e, r⟩ := h
  exact ⟨ob, k _ _ e (fun xs z => by cases z), r⟩
theorem SqT.keep {K : PySem.W.Frag} {H H' : Hp} {a : Addr} {xs : List V} (h : SqT K H a xs) (k : Keep H H') : SqT K H' a xs := by
  rcases h with (h | ⟨o, h⟩) | h
  · exact .inl (.inl (k _ _ h fun xs z => by cases z))
  · exact .inl (.inr ⟨o, k _ _ h fun xs z => by cases z⟩)
  · exact .inr h
end Lk
set_option Elab.async false
set_option linter.all false
set_option maxRecDepth 100000
set_option maxHeartbeats 4000000
set_option pp.maxSteps 1200
set_option pp.deepTerms false
namespace K6
open PySem PySem.Spec PyProof.Rows L2 Lk
abbrev sShelf : Stmt := top 78
/-! ### what a shelf is drawn as -/
abbrev KP := Str × List (List Str)
structure Lore where
  parts : List Str
  kps : List KP
structure LoreOk (L : Lore) : Prop where
  p0 : 0 < L.parts.length
  p4 : L.parts.length ≤ 4
  pn : L.parts.Nodup
  pp : ∀ p ∈ L.parts, p ∈ partPool
  k2 : 2 ≤ L.kps.length
  k6 : L.kps.length ≤ 6
  kn : (L.kps.map (·.1)).Nodup
  kp : ∀ k ∈ L.kps, k.1 ∈ namePool
  q : ∀ k ∈ L.kps, 1 ≤ k.2.length ∧ k.2.length ≤ 2 ∧ ∀ p ∈ k.2, PieceOk L.parts p
/-- tuples of texts, each at its own address -/
def Pieces (H : Hp) : List V → List (List Str) → Prop := Paired fun v p => ∃ t, v = V.ref t ∧ H t = some (.tup (p.map V.str))
def RowR (H : Hp) (v : V) (q : List (List Str)) : Prop := ∃ t ts, v = V.ref t ∧ H t = some (.tup ts) ∧ Pieces H ts q
def Lore3 (H : Hp) (lo : Addr) (L : Lore) : Prop := ∃ pa nm ps ts, H lo = some (.dK [(.inr "parts", .ref pa), (.inr "names", .ref nm), (.inr "pieces", .ref ps)]) ∧ H pa = some (.tup (L.parts.map V.str)) ∧ TupX H nm ((L.kps.map (·.1)).map V.str) ∧ H ps = some (.tup ts) ∧ Paired (fun v (k : KP) => RowR H v k.2) ts L.kps
/-- a dict that begins so -/
def D3 (H : Hp) (lo pa nm ps : Addr) : Prop := ∃ rest, H lo = some (.dK ((.inr "parts", .ref pa) :: (.inr "names", .ref nm) :: (.inr "pieces", .ref ps) :: rest))
theorem D3.keep {H H' : Hp} {lo pa nm ps : Addr} (h : D3 H lo pa nm ps) (k : Keep H H') : D3 H' lo pa nm ps := let ⟨r, e⟩ := h; ⟨r, k _ _ e fun _ z => by cases z⟩
theorem D3.same {H H' : Hp} {lo pa nm ps : Addr} (h : D3 H lo pa nm ps) (s : Same H H') : D3 H' lo pa nm ps := h.keep (.of s)
def LoreAt (H : Hp) (lo : Addr) (L : Lore) : Prop := ∃ pa nm ps ts, D3 H lo pa nm ps ∧ H pa = some (.tup (L.parts.map V.str)) ∧ TupX H nm ((L.kps.map (·.1)).map V.str) ∧ H ps = some (.tup ts) ∧ Paired (fun v (k : KP) => RowR H v k.2) ts L.kps
theorem Lore3.at_ {H : Hp} {lo : Addr} {L : Lore} (h : Lore3 H lo L) : LoreAt H lo L := let ⟨pa, nm, ps, ts, e, r⟩ := h; ⟨pa, nm, ps, ts, ⟨[], e⟩, r⟩
/-- what is in H and no list stands in H', too -/
def Tups (H H' : Hp) : Prop := ∀ b xs, H b = some (.tup xs) → H' b = some (.tup xs)
theorem Tups.of {H H' : Hp} (s : Same H H') : Tups H H' := fun b xs e => s b _ e
theorem Tups.trans {H H1 H2 : Hp} (x : Tups H H1) (y : Tups H1 H2) : Tups H H2 := fun b xs e => y b xs (x b xs e)
theorem Tups.ext {a : Addr} {N : Nat} {H H' : Hp} (hp : PotAt a N H) (x : ExtP a H H') : Tups H H' := fun b xs e => x b _ (fun z => by
  obtain ⟨_, _, _, h, _⟩ := hp
  rw [z, h] at e
  cases e) e
theorem Tups.upd {H : Hp} {b : Addr} {xs : List V} {o : HO} (h : H b = some (.lst xs)) : Tups H (upd H b o) := fun c ys e => by
  rw [upd_ne (fun z => by rw [z, h] at e; cases e)]
  exact e
theorem Pieces.tups {H H' : Hp} {vs : List V} {ps : List (List Str)} (h : Pieces H vs ps) (k : Tups H H') : Pieces H' vs ps := Paired.mapP h fun _ _ ⟨t, e, h⟩ => ⟨t, e, k _ _ h⟩
theorem paired_append {α β : Type} {R : α → β → Prop} : ∀ {xs : List α} {ys : List β} {xs' : List α} {ys' : List β}, Paired R xs ys → Paired R xs' ys' → Paired R (xs ++ xs') (ys ++ ys')
  | _, _, _, _, .nil, h => h
  | _, _, _, _, .cons a t, h => .cons a (paired_append t h)
theorem paired_len {α β : Type} {R : α → β → Prop} : ∀ {xs : List α} {ys : List β}, Paired R xs ys → xs.length = ys.length
  | _, _, .nil => rfl
  | _, _, .cons _ t => by rw [List.length_cons, List.length_cons, paired_len t]
theorem Pieces.keep {H H' : Hp} {vs : List V} {ps : List (List Str)} (h : Pieces H vs ps) (k : Keep H H') : Pieces H' vs ps := Paired.mapP h fun _ _ ⟨t, e, h⟩ => ⟨t, e, k _ _ h fun _ z => by cases z⟩
theorem RowR.keep {H H' : Hp} {v : V} {q : List (List Str)} (h : RowR H v q) (k : Keep H H') : RowR H' v q := by
  obtain ⟨t, ts, e, h1, h2⟩ := h
  exact ⟨t, ts, e, k _ _ h1 (fun _ z => by cases z), h2.keep k⟩
theorem LoreAt.keep {lo : Addr} {H H' : Hp} {L : Lore} (h : LoreAt H lo L) (k : Keep H H') : LoreAt H' lo L := by
  obtain ⟨pa, nm, ps, ts, h1, h2, h3, h4, h5⟩ := h
  exact ⟨pa, nm, ps, ts, h1.keep k, k _ _ h2 (fun _ z => by cases z), h3.keep k, k _ _ h4 (fun _ z => by cases z), Paired.mapP h5 fun _ _ r => r.keep k⟩
theorem LoreAt.same {lo : Addr} {H H' : Hp} {L : Lore} (h : LoreAt H lo L) (s : Same H H') : LoreAt H' lo L := h.keep (.of s)
theorem LoreAt.ext {a lo : Addr} {N : Nat} {H H' : Hp} {L : Lore} (h : LoreAt H lo L) (hp : PotAt a N H) (x : ExtP a H H') : LoreAt H' lo L := h.keep (Keep.ext hp x)
theorem rows_zip {H : Hp} : ∀ {rows : List V} {qs : List (List (List Str))} {zs : List Str}, Paired (RowR H) rows qs → zs.length = qs.length → Paired (fun v (k : KP) => RowR H v k.2) rows (zs.zip qs)
  | _, _, [], .nil, _ => .nil
  | _, _, _ :: _, .nil, h => by cases h
  | _, _, [], .cons _ _, h => by cases h
  | _, _, _ :: _, .cons r t, h => .cons r (rows_zip t (by simpa using h))
theorem dget3 {H : Hp} {lo pa nm ps : Addr} (e : D3 H lo pa nm ps) :
    DGet H lo (.str "parts") (some (.ref pa)) ∧ DGet H lo (.str "names") (some (.ref nm)) ∧ DGet H lo (.str "pieces") (some (.ref ps)) := by
  obtain ⟨rest, e⟩ := e
  exact ⟨.inl ⟨_, .inr "parts", .inl e, rfl, rfl⟩, .inl ⟨_, .inr "names", .inl e, rfl, rfl⟩, .inl ⟨_, .inr "pieces", .inl e, rfl, rfl⟩⟩
section
variable {P : Program} {w : World} {K : PySem.W.Frag} {mg : Str → Option Value} {base : Heap} {f : Addr} {fd : FuncData}
/-! ### _law_shelf -/
def spShelf : Sp := fun vs H Q _ => ∃ (a : Addr) (fw up mp : Int) (N : Nat), vs = [.ref a, .int fw, .int up, .int mp] ∧ PotAt a N H ∧ N ≤ 10000 ∧ 2 ≤ fw ∧ fw ≤ up ∧ up ≤ 6 ∧ 1 ≤ mp ∧ mp ≤ 4 ∧
  ∀ (L : Lore) (lo : Addr) (H' : Hp), LoreOk L → ExtP a H H' → PotAt a (N + 200) H' → Lore3 H' lo L → Q (.ref lo) H'
theorem scShelf : FnScope ["pot", "few", "upmost", "most_parts", "parts", "names", "pieces", "name", "lap"] ["pot", "few", "upmost", "most_parts"] (defScope sShelf) := ⟨rfl, rfl, rfl, by decide +kernel, rfl, by decide +kernel, by decide +kernel⟩
theorem ok_shelf {f1 f2 f3 f4 f5 f6 : Addr} {fd1 fd2 fd3 fd4 fd5 fd6 : FuncData} (F : Fun K "_law_shelf" "_law_shelf" sShelf f fd) (T : Bl mg) (hT : mg "tuple" = none)
    (F1 : Fun K "_law_take" "_law_take" sTake f1 fd1) (b1 : Binds K fd1 ["pot", "upto"] []) (m1 : mg "_law_take" = some (.ref f1))
    (F2 : Fun K "_law_some" "_law_some" sSome f2 fd2) (b2 : Binds K fd2 ["pot", "pool", "amount"] []) (m2 : mg "_law_some" = some (.ref f2))
    (F3 : Fun K "_law_lot_of" "_law_lot_of" sLotOf f3 fd3) (b3 : Binds K fd3 ["names", "some"] []) (m3 : mg "_law_lot_of" = some (.ref f3))
    (F4 : Fun K "_law_names" "_law_names" sNames f4 fd4) (b4 : Binds K fd4 ["pot", "few", "upmost"] []) (m4 : mg "_law_names" = some (.ref f4))
    (F5 : Fun K "_law_piece" "_law_piece" sPiece f5 fd5) (b5 : Binds K fd5 ["pot", "parts"] []) (m5 : mg "_law_piece" = some (.ref f5))
    (F6 : Fun K "_law_parts" "_law_parts" sParts f6 fd6) (b6 : Binds K fd6 ["pot", "upmost"] []) (m6 : mg "_law_parts" = some (.ref f6)) :
    FnOk P w K mg base CX0 4 f fd ["pot", "few", "upmost", "most_parts"] spShelf := by
  have G1 : FnOk P w K mg base CX0 1 f1 fd1 ["pot", "upto"] spTake := ok_take F1 T
  have G4 : FnOk P w K mg base CX0 3 f4 fd4 ["pot", "few", "upmost"] spNames := ok_names F4 T hT F1 b1 m1 F2 b2 m2
  have G5 : FnOk P w K mg base CX0 3 f5 fd5 ["pot", "parts"] (spPiece K) := ok_piece F5 T hT F1 b1 m1 F2 b2 m2 F3 b3 m3
  have G6 : FnOk P w K mg base CX0 3 f6 fd6 ["pot", "upmost"] spParts := ok_parts F6 T hT F1 b1 m1 F2 b2 m2
  refine F.ok scShelf (fun vs H Q E h => ?_) (fun cdv A outer s H vs Q E hr h => ?_)
  · obtain ⟨a, fw, up, mp, N, rfl, _⟩ := h
    rfl
  · obtain ⟨a, fw, up, mp, N, rfl, hp, hN, f2, fu, u6, mp1, mp4, k⟩ := h
    have nd := scShelf.nd
    have hr1 : Room 1 _ := hr.mono (by decide)
    refine ⟨_, pss_cons (ps_asg (pe_tup (pa_cons (pe_call G6 hr (by rfl) m6 F6.kp b6 .nil pass0 (pa_cons (pv 0) (pa_cons (pv 3) pa_nil))) (pa_cons (pe_call G4 hr (by rfl) m4 F4.kp b4 .nil pass0 (pa_cons (pv 0) (pa_cons (pv 1) (pa_cons (pv 2) pa_nil)))) pa_nil)))
          (pg_tup rfl (pgs_cons (pg_name (i := 4) nd rfl (.inr rfl)) (pgs_cons (pg_name (i := 5) nd rfl (.inl rfl)) pgs_nil))))
      (pss_cons (ps_set (i := 6) nd rfl (.inl rfl) (pe_lst pa_nil))
      (pss_cons (ps_for PassesOwn.never rfl (pi_tup (pv 5)) (pg_name (i := 7) nd rfl (.inl rfl))
          (pss_one (ps_expr (pe_bm PySem.F.plainAttrs_list PySem.F.slot_list_append PySem.F.type_list_append mt_append (pv 6) (pa_cons (pe_tupleOf (by rfl) hT
            (pe_lc (own := [("lap", 8)]) (g := gName 8) (tt := tYes) (te := tCall (spPiece K) [] E0 (tCons (tVar 0) (tCons (tVar 4) tNil))) rfl nd
              (pi_range1 (by rfl) T.range (pa_cons (pe_op op_add pe_int (pe_callTy call_int1 rfl T.int boot_int (pa_cons (pe_cmpR op_eq (pe_call G1 hr1 (by rfl) m1 F1.kp b1 .nil pass0 (pa_cons (pv 0) (pa_cons pe_int pa_nil))) pe_int (nomark _)) pa_nil))) pa_nil))
              (blkOk_by (N := ["pot", "few", "upmost", "most_parts", "parts", "names", "pieces", "name", "lap"]) (sc := defScope sShelf) (by decide +kernel)) (fun _ _ _ _ _ => pg_name (i := 8) nd rfl (Or.inl rfl)) (fun _ _ _ _ _ => pts_nil)
              (fun _ _ _ _ _ => pe_call G5 hr (by rfl) m5 F5.kp b5 .nil pass0 (pa_cons (pv 0) (pa_cons (pv 4) pa_nil))))) pa_nil)))))
        (pss_one (ps_ret (pe_disp (pps_cons pe_str (pv 4) (pps_cons pe_str (pv 5) (pps_cons pe_str (pe_tupleOf (by rfl) hT (pv 6)) pps_nil))) rfl rfl (by simp) (by simp)))))), ?_⟩
    refine ⟨_, rfl, _, rfl, a, mp, N, rfl, hp, by omega, mp1, mp4, fun ps pa H1 sp ps1 psm x1 p1 npa epa => ?_⟩
    refine ⟨_, rfl, _, rfl, _, rfl, a, fw, up, N + 10, rfl, p1, by omega, by omega, fu, by omega, fun zs nm H2 sz z1 z2 x2 p2 nnm tnm => ?_⟩
    have K2 : Keep H1 H2 := Keep.ext p1 x2
    have paa : pa ≠ a := fun z => hp.ne (by rw [← z]; exact npa)
    have epa2 : H2 pa = some (.tup (ps.map V.str)) := x2 _ _ paa epa
    refine ⟨few_ok rfl, fun t nt => ⟨t, _, rfl, .inl (.inl upd_same), rfl, ?_⟩⟩
    refine ⟨_, _, rfl, _, _, rfl, rfl, ?_⟩
    have s3 : Same H2 (upd H2 t (.tup [.ref pa, .ref nm])) := same_new nt
    generalize hH3 : upd H2 t (.tup [.ref pa, .ref nm]) = H3 at s3
    refine ⟨few_ok rfl, fun fnd nf => ?_⟩
    have s4 : Same H2 (upd H3 fnd (.lst [])) := s3.trans (same_new nf)
    have ef4 : upd H3 fnd (.lst []) fnd = some (.lst []) := upd_same
    generalize hH4 : upd H3 fnd (.lst []) = H4 at s4 ef4
    have X2 : ExtP a H H2 := x1.trans x2
    have X4 : ExtP a H H4 := X2.trans (.of s4)
    have nfa : fnd ≠ a := fun z => (p2.same s3).ne (by rw [← z]; exact nf)
    have nfH : H fnd = none := by
      cases z : H fnd with
      | none => rfl
      | some o => rw [s3 _ _ (X2 _ _ nfa z)] at nf; cases nf
    have pl : ps.length ≤ 4 := by omega
    have zl : zs.length ≤ 6 := by omega
    refine ⟨_, rfl, nm, rfl, ⟨_, (tnm.same s4).sq⟩, for_tup (xs := zs.map V.str) (fun i σ H' => ∃ (qs : List (List (List Str))) (rows : List V) (u v : Option V), σ = [some (.ref a), some (.int fw), some (.int up), some (.int mp), some (.ref pa), some (.ref nm), some (.ref fnd), u, v] ∧ qs.length = i ∧
      (∀ q ∈ qs, 1 ≤ q.length ∧ q.length ≤ 2 ∧ ∀ p ∈ q, PieceOk ps p) ∧ H' fnd = some (.lst rows) ∧ Paired (RowR H') rows qs ∧ PotAt a (N + 60 + 22 * i) H' ∧ ExtP a H H' ∧ Keep H4 H') ?_ ?_ ?_ ?_⟩
    · exact ⟨[], [], none, none, rfl, rfl, by simp, ef4, .nil, (p2.same s4).mono (by omega), X4, .of (Same.refl _)⟩
    · rintro i σ H' _ ⟨_, _, _, _, rfl, _, _, _, _, _, _, kk⟩
      exact ((tnm.same s4).keep kk).sq
    · rintro i x σ H' hx ⟨qs, rows, u, v, rfl, hq, hall, hf, hrw, pt, ex, kk⟩
      have iz : i < zs.length := by
        have := (List.getElem?_eq_some_iff.mp hx).1
        rw [List.length_map] at this
        exact this
      have rl : rows.length = qs.length := paired_len hrw
      refine ⟨_, rfl, .inl ⟨rfl, _, SqL.of hf⟩, _, rfl, a, 3, _, rfl, pt, by omega, by decide, by decide, fun i3 H7 i30 i33 x7 p7 => ?_⟩
      refine ⟨rfl, .inr ⟨_, rfl, _, _, rfl, rfl, ?_⟩⟩
      have nb : ∀ c : Bool, (1 : Int) + (if c = true then 1 else 0) = 1 ∨ (1 : Int) + (if c = true then 1 else 0) = 2 := by decide
      have nb2 := nb (decide (V.int i3 = V.int 0))
      obtain ⟨n, hn⟩ : ∃ n : Int, n = 1 + (if decide (V.int i3 = V.int 0) = true then 1 else 0) := ⟨_, rfl⟩
      rw [← hn] at nb2
      refine ⟨n, by rw [hn], by omega, by omega, fun D nD => ?_⟩
      have n12 : n.toNat = 1 ∨ n.toNat = 2 := by omega
      have K7 : Keep H' H7 := Keep.ext pt x7
      have hpa7 : H7 pa = some (.tup (ps.map V.str)) := K7 _ _ (kk _ _ (s4 _ _ epa2) (fun _ z => by cases z)) (fun _ z => by cases z)
      have nDa : D ≠ a := fun z => p7.ne (by rw [← z]; exact nD)
      refine lc_it (walk_range (n := n.toNat)) (fun j H => ∃ (ts : List V) (pcs : List (List Str)), H D = some (.lst ts) ∧ Pieces H ts pcs ∧ ts.length = j ∧ pcs.length = j ∧ (∀ p ∈ pcs, PieceOk ps p) ∧ PotAt a (N + 60 + 22 * i + 1 + 10 * j) H ∧ ExtP a H7 H) ?_ (fun _ _ _ _ => trivial) ?_ ?_
      · exact ⟨[], [], upd_same, .nil, rfl, rfl, by simp, (p7.same (same_new nD)).mono (by omega), .of (same_new nD)⟩
      · rintro j y H8 H8' hj ⟨ts, pcs, hD, hP, hl1, hl2, hall, pt8, ex8⟩ hy
        obtain ⟨rfl, rfl⟩ := hy
        have hpa8 := ex8 _ _ paa hpa7
        refine ⟨rfl, _, rfl, _, rfl, a, pa, _, ps, rfl, pt8, by omega, .inr (SqT.of hpa8), paa, by omega, by omega, fun piece q H9 pok x9 p9 nq eq => ?_⟩
        have hD9 := x9 _ _ nDa hD
        refine ⟨ts, hD9, by rw [sizeLine_eq]; omega, ts ++ [.ref q], pcs ++ [piece], upd_same, ?_, by simp [hl1], by simp [hl2], ?_, ?_, ?_⟩
        · exact paired_append ((hP.tups (Tups.ext pt8 x9)).tups (Tups.upd hD9)) (.cons ⟨q, rfl, (Tups.upd hD9) _ _ eq⟩ .nil)
        · intro p hp
          rcases List.mem_append.mp hp with h | h
          · exact hall p h
          · rw [List.mem_singleton.mp h]; exact pok
        · obtain ⟨o, b, c, e, r0, r1, r2, r3, r4⟩ := p9
          exact ⟨o, b, c, by rw [upd_ne nDa.symm]; exact e, r0, r1, r2, r3, by omega⟩
        · intro b o nb e
          rw [upd_ne (ne_of_none e nD)]
          exact x9 _ _ nb (ex8 _ _ nb e)
      · rintro H8 ⟨ts, pcs, hD, hP, hl1, hl2, hall8, pt8, ex8⟩
        have hf8 : H8 fnd = some (.lst rows) := ex8 _ _ nfa (x7 _ _ nfa hf)
        refine .inl ⟨D, _, rfl, SqL.of hD, fun T nT => ?_⟩
        have s9 : Same H8 (upd H8 T (.tup ts)) := same_new nT
        have eT : upd H8 T (.tup ts) T = some (.tup ts) := upd_same
        generalize upd H8 T (.tup ts) = H9 at s9 eT
        have hf9 := s9 _ _ hf8
        refine ⟨fnd, rows, _, rfl, rfl, hf9, by rw [sizeLine_eq]; omega, ?_⟩
        have K9 : Keep H' H9 := (K7.trans (Keep.ext p7 ex8)).trans (.of s9)
        have KA : Keep H9 (upd H9 fnd (.lst (rows ++ [.ref T]))) := Keep.upd hf9
        refine ⟨qs ++ [pcs], rows ++ [.ref T], _, _, rfl, by simp [hq], ?_, upd_same, ?_, ?_, ?_, (kk.trans K9).trans KA⟩
        · intro q hqm
          rcases List.mem_append.mp hqm with h | h
          · exact hall q h
          · rw [List.mem_singleton.mp h]
            exact ⟨by omega, by omega, hall8⟩
        · exact paired_append (Paired.mapP hrw fun _ _ r => (r.keep K9).keep KA) (.cons ⟨T, ts, rfl, KA _ _ eT (fun _ z => by cases z), (hP.tups (.of s9)).keep KA⟩ .nil)
        · obtain ⟨o, b, c, e, r0, r1, r2, r3, r4⟩ := pt8.same s9
          exact ⟨o, b, c, by rw [upd_ne nfa.symm]; exact e, r0, r1, r2, r3, by omega⟩
        · intro b o nb e
          rw [upd_ne (ne_of_none e nfH)]
          exact s9 _ _ (ex8 _ _ nb (x7 _ _ nb (ex _ _ nb e)))
    · rintro σ H' ⟨qs, rows, u, v, rfl, hq, hall, hf, hrw, pt, ex, kk⟩
      rw [List.length_map] at hq pt
      have zsl : zs.length = qs.length := by omega
      intro lo nlo
      have nloa : lo ≠ a := fun z => pt.ne (by rw [← z]; exact nlo)
      have s1 : Same H' (upd H' lo (.dK [])) := same_new nlo
      refine ⟨_, rfl, _, rfl, _, rfl, .inl ⟨fnd, _, rfl, SqL.of (s1 _ _ hf), fun T nT => ?_⟩⟩
      have s2 : Same (upd H' lo (.dK [])) (upd (upd H' lo (.dK [])) T (.tup rows)) := same_new nT
      have nlT : lo ≠ T := fun z => by rw [← z, upd_same] at nT; cases nT
      refine ⟨by rw [upd_ne nlT, upd_same], [(.inr "parts", .ref pa), (.inr "names", .ref nm), (.inr "pieces", .ref T)], rfl, by show 3 ≤ 15; decide, ?_⟩
      have eT : upd (upd H' lo (.dK [])) T (.tup rows) T = some (.tup rows) := upd_same
      generalize upd (upd H' lo (.dK [])) T (.tup rows) = H5 at s2 eT
      have s6 : Same H' (upd H5 lo (.dK (mergeK [] [(.inr "parts", .ref pa), (.inr "names", .ref nm), (.inr "pieces", .ref T)]))) := fun b o e => by
        rw [upd_ne (ne_of_none e nlo)]
        exact s2 _ _ (s1 _ _ e)
      have K6 : Keep H4 _ := kk.trans (.of s6)
      have z1 : (zs.zip qs).map (·.1) = zs := List.map_fst_zip (by omega)
      have zq : (zs.zip qs).length = zs.length := by rw [List.length_zip]; omega
      refine k ⟨ps, zs.zip qs⟩ lo _ ⟨by show 0 < ps.length; omega, by show ps.length ≤ 4; omega, sp.nodup (by decide), sp.sub, by show 2 ≤ (zs.zip qs).length; omega, by show (zs.zip qs).length ≤ 6; omega, ?_, ?_, ?_⟩ (ex.trans (.of s6)) ((pt.same s6).mono (by omega)) ?_
      · show ((zs.zip qs).map (·.1)).Nodup
        rw [z1]
        exact sz.nodup (by decide)
      · intro k0 hk0
        exact sz.sub _ (List.of_mem_zip (show (k0.1, k0.2) ∈ zs.zip qs from hk0)).1
      · intro k0 hk0
        exact hall _ (List.of_mem_zip (show (k0.1, k0.2) ∈ zs.zip qs from hk0)).2
      · refine ⟨pa, nm, T, rows, upd_same, K6 _ _ (s4 _ _ epa2) (fun _ z => by cases z), ?_, ?_, rows_zip (Paired.mapP hrw fun _ _ r => r.keep (.of s6)) zsl⟩
        · show TupX _ nm (((zs.zip qs).map (·.1)).map V.str)
          rw [z1]
          exact (tnm.same s4).keep K6
        · rw [upd_ne nlT.symm]
          exact eT
end
end K6
set_option Elab.async false
set_option linter.all false
set_option maxRecDepth 100000
set_option maxHeartbeats 4000000
set_option pp.maxSteps 1200
set_option pp.deepTerms false
namespace K6
open PySem PySem.Spec PyProof.Rows L2 Lk RZ
abbrev sText : Stmt := top 79
/-! ### the text, as it is meant -/
def pieceW (p : List Str) : Str := Txt.join "+" p
def lineP (L : Lore) : Str := Txt.join " " ("parts" :: L.parts)
def wordsK (k : KP) : List Str := "keeper" :: k.1 :: k.2.map pieceW
def lineK (k : KP) : Str := Txt.join " " (wordsK k)
def rowsL (L : Lore) : List Str := lineP L :: L.kps.map lineK
def textL (L : Lore) : Str := Txt.join "\n" (rowsL L)
theorem join_le {s : Str} {n c : Nat} {xs : List Str} (hn : xs.length ≤ n) (hc : ∀ x ∈ xs, x.length ≤ c) : (xs.map (·.length)).sum + xs.length * s.length ≤ n * c + n * s.length ∧ (Txt.join s xs).length ≤ n * c + n * s.length := by
  have h1 : (xs.map (·.length)).sum ≤ xs.length * c := by
    clear hn
    induction xs with
    | nil => simp
    | cons x xs ih =>
      have := ih fun y hy => hc y (List.mem_cons_of_mem _ hy)
      have := hc x List.mem_cons_self
      simp only [List.map_cons, List.sum_cons, List.length_cons, Nat.succ_mul]
      omega
  have h2 := Nat.mul_le_mul_right c hn
  have h3 := Nat.mul_le_mul_right s.length hn
  have h4 := StrLaws.join_length_le s xs
  rw [show Txt.join s xs = Str.join s xs from StrLaws.glued_eq_join s xs]
  constructor <;> omega
theorem part_len : ∀ p ∈ partPool, p.length ≤ 6 := by decide +kernel
theorem name_len : ∀ p ∈ namePool, p.length ≤ 8 := by decide +kernel
theorem PieceOk.sub {ps p : List Str} (h : PieceOk ps p) : ∀ x ∈ p, x ∈ ps := fun x hx => by
  rw [h.2] at hx
  exact (List.mem_filter.mp hx).1
theorem PieceOk.len {ps p : List Str} (h : PieceOk ps p) : p.length ≤ ps.length := by
  have := List.length_filter_le (fun x => decide (x ∈ p)) ps
  rw [← h.2] at this
  exact this
theorem parts_len {L : Lore} (ok : LoreOk L) : ∀ x ∈ ("parts" : Str) :: L.parts, x.length ≤ 6 := fun x hx => by
  rcases List.mem_cons.mp hx with rfl | hx
  · decide
  · exact part_len x (ok.pp x hx)
theorem piece_len {L : Lore} (ok : LoreOk L) {k : KP} (km : k ∈ L.kps) : ∀ p ∈ k.2, p.length ≤ 4 ∧ ∀ x ∈ p, x.length ≤ 6 := fun p hp =>
  ⟨Nat.le_trans ((ok.q k km).2.2 p hp).len ok.p4, fun x hx => part_len x (ok.pp x (((ok.q k km).2.2 p hp).sub x hx))⟩
theorem words_len {L : Lore} (ok : LoreOk L) {k : KP} (km : k ∈ L.kps) : ∀ x ∈ wordsK k, x.length ≤ 28 := fun x hx => by
  rcases List.mem_cons.mp hx with rfl | hx
  · decide
  rcases List.mem_cons.mp hx with rfl | hx
  · exact Nat.le_trans (name_len _ (ok.kp k km)) (by decide)
  obtain ⟨p, hp, rfl⟩ := List.mem_map.mp hx
  exact (join_le (s := ("+" : Str)) (piece_len ok km p hp).1 (piece_len ok km p hp).2).2
theorem rows_len {L : Lore} (ok : LoreOk L) : ∀ x ∈ rowsL L, x.length ≤ 120 := fun x hx => by
  rcases List.mem_cons.mp hx with rfl | hx
  · exact Nat.le_trans (join_le (s := (" " : Str)) (n := 5) (by have := ok.p4; show L.parts.length + 1 ≤ 5; omega) (parts_len ok)).2 (by decide)
  · obtain ⟨k, hk, rfl⟩ := List.mem_map.mp hx
    exact Nat.le_trans (join_le (s := (" " : Str)) (n := 4) (by have := (ok.q k hk).2.1; show (k.2.map pieceW).length + 1 + 1 ≤ 4; rw [List.length_map]; omega) (words_len ok hk)).2 (by decide)
theorem paired_zip {α β : Type} {R : α → β → Prop} : ∀ {xs : List α} {ys : List β}, Paired R xs ys → ∃ zs : List (α × β), zs.map (·.1) = xs ∧ zs.map (·.2) = ys ∧ ∀ z ∈ zs, R z.1 z.2
  | _, _, .nil => ⟨[], rfl, rfl, fun _ h => by simp at h⟩
  | _, _, .cons (a := a) (b := b) h t => by
    obtain ⟨zs, e1, e2, e3⟩ := paired_zip t
    refine ⟨(a, b) :: zs, by rw [List.map_cons, e1], by rw [List.map_cons, e2], fun z hz => ?_⟩
    rcases List.mem_cons.mp hz with rfl | hz
    · exact h
    · exact e3 z hz
section
variable {P : Program} {w : World} {K : PySem.W.Frag} {mg : Str → Option Value} {base : Heap} {f : Addr} {fd : FuncData}
def rJoin (K : PySem.W.Frag) : V → List V → Hp → VK → Prop := fun x xs H Q => ∃ a p, ∃ ys : List Str, x = .str a ∧ xs = [.ref p] ∧ (SqL K H p (ys.map V.str) ∨ SqT K H p (ys.map V.str)) ∧ (ys.map (·.length)).sum + ys.length * a.length ≤ 16777216 ∧ Q (.str (Txt.join a ys)) H
def rListOf (K : PySem.W.Frag) : List V → Hp → VK → Prop := fun xs H Q => ∃ p ys, xs = [.ref p] ∧ (SqL K H p ys ∨ SqT K H p ys) ∧ ∀ l, H l = none → Q (.ref l) (upd H l (.lst ys))
/-! ### _law_shelf_text -/
def spText : Sp := fun vs H Q _ => ∃ (lo : Addr) (L : Lore), vs = [.ref lo] ∧ LoreAt H lo L ∧ LoreOk L ∧ ∀ H', Same H H' → Q (.str (textL L)) H'
theorem scText : FnScope ["lore", "rows", "name", "some", "piece"] ["lore"] (defScope sText) := ⟨rfl, rfl, rfl, by decide +kernel, rfl, by decide +kernel, by decide +kernel⟩
theorem ok_text (F : Fun K "_law_shelf_text" "_law_shelf_text" sText f fd) (T : Bl mg) (hZ : mg "zip" = none) : FnOk P w K mg base CX0 1 f fd ["lore"] spText := by
  refine F.ok scText (fun vs H Q E h => ?_) (fun cdv A outer s H vs Q E hr h => ?_)
  · obtain ⟨lo, L, rfl, _⟩ := h
    rfl
  · obtain ⟨lo, L, rfl, hl, ok, k⟩ := h
    have nd := scText.nd
    have hu := hu_of hr
    refine ⟨_, pss_cons (ps_set (i := 1) nd rfl (.inl rfl) (pe_lst (pa_cons (pe_join pe_str (pe_op op_cat (pe_lst (pa_cons pe_str pa_nil)) (pe_callTy call_list_of rfl T.list boot_list (pa_cons (pe_dget hu (pv 0) pe_str (fun _ _ => rfl)) pa_nil)))) pa_nil)))
      (pss_cons (ps_for PassesOwn.never rfl (pi_zipA (by rfl) hZ (pa_cons (pe_dget hu (pv 0) pe_str (fun _ _ => rfl)) (pa_cons (pe_dget hu (pv 0) pe_str (fun _ _ => rfl)) pa_nil))) (pg_tup rfl (pgs_cons (pg_name (i := 2) nd rfl (.inl rfl)) (pgs_cons (pg_name (i := 3) nd rfl (.inl rfl)) pgs_nil)))
          (pss_one (ps_expr (pe_bm PySem.F.plainAttrs_list PySem.F.slot_list_append PySem.F.type_list_append mt_append (pv 1) (pa_cons (pe_join pe_str (pe_op op_cat (pe_lst (pa_cons pe_str (pa_cons (pv 2) pa_nil)))
            (pe_lc (own := [("piece", 4)]) (g := gName 4) (tt := tYes) (te := tM1 (rJoin K) (tC (.str "+")) (tCB (rListOf K) (tCons (tVar 4) tNil))) rfl nd (pi_tup (pv 3)) (blkOk_by (N := ["lore", "rows", "name", "some", "piece"]) (sc := defScope sText) (by decide +kernel))
              (fun _ _ _ _ _ => pg_name (i := 4) nd rfl (Or.inl rfl)) (fun _ _ _ _ _ => pts_nil) (fun _ _ _ _ _ => pe_join pe_str (pe_callTy call_list_of rfl T.list boot_list (pa_cons (pv 4) pa_nil)))))) pa_nil)))))
        (pss_one (ps_ret (pe_join pe_str (pv 1))))), ?_⟩
    obtain ⟨pa, nm, pt, rows, e1, e2, e3, e4, e5⟩ := hl
    have pl : ∀ p ∈ L.parts, p.length ≤ 6 := fun p hp => part_len p (ok.pp p hp)
    have hp0 : ∀ x ∈ ("parts" : Str) :: L.parts, x.length ≤ 6 := fun x hx => by
      rcases List.mem_cons.mp hx with rfl | hx
      · decide
      · exact pl x hx
    have p4 := ok.p4
    have j0 := join_le (s := (" " : Str)) (n := 5) (by show L.parts.length + 1 ≤ 5; omega) hp0
    refine ⟨⟨_, rfl⟩, few_ok rfl, fun l1 n1 => ?_⟩
    have s1 : Same H (upd H l1 (.lst [.str "parts"])) := same_new n1
    refine ⟨_, rfl, lo, _, rfl, (dget3 (e1.same s1)).1, ?_⟩
    refine ⟨pa, _, rfl, .inr (.inl (.inl (s1 _ _ e2))), fun l2 n2 => ?_⟩
    have s2 : Same H (upd (upd H l1 (.lst [.str "parts"])) l2 (.lst (L.parts.map V.str))) := s1.trans (same_new n2)
    have l12 : l1 ≠ l2 := fun z => by rw [← z, upd_same] at n2; cases n2
    refine ⟨l1, l2, _, _, rfl, rfl, by rw [upd_ne l12, upd_same], upd_same, by rw [List.length_map, sizeLine_eq]; show 1 + L.parts.length ≤ _; omega, fun p np => ?_⟩
    have s3 := s2.trans (same_new (o := .lst ([.str "parts"] ++ L.parts.map V.str)) np)
    refine ⟨_, p, "parts" :: L.parts, rfl, rfl, .inl (SqL.of upd_same), Nat.le_trans j0.1 (by decide), ?_⟩
    refine ⟨few_ok rfl, fun rw0 nrw => ?_⟩
    have s4 := s3.trans (same_new (o := .lst [.str (Txt.join " " ("parts" :: L.parts))]) nrw)
    generalize hH0 : upd (upd (upd (upd H l1 (.lst [.str "parts"])) l2 (.lst (L.parts.map V.str))) p (.lst ([.str "parts"] ++ L.parts.map V.str))) rw0 (.lst [.str (Txt.join " " ("parts" :: L.parts))]) = H0 at s4
    have er0 : H0 rw0 = some (.lst [.str (lineP L)]) := by rw [← hH0, upd_same]; rfl
    have nHr : H rw0 = none := by
      cases z : H rw0 with
      | none => rfl
      | some o => rw [s3 _ _ z] at nrw; cases nrw
    have e1' := e1.same s4
    have rwl : rows.length = L.kps.length := paired_len e5
    refine ⟨_, rfl, lo, _, rfl, (dget3 e1').2.1, _, rfl, lo, _, rfl, (dget3 e1').2.2, nm, pt, (L.kps.map (·.1)).map V.str, rows, rfl, .inr ⟨(e3.same s4).sq, SqT.of (s4 _ _ e4), ?_⟩⟩
    obtain ⟨zs, hz1, hz2, hz3⟩ := paired_zip e5
    refine for_zipT (xs := (L.kps.map (·.1)).map V.str) (ys := rows) (by rw [List.length_map, List.length_map]; omega) (fun i σ H' => ∃ u v w : Option V, σ = [some (.ref lo), some (.ref rw0), u, v, w] ∧ H' rw0 = some (.lst ((lineP L :: (L.kps.take i).map lineK).map V.str)) ∧ Same H H') ?_ ?_ ?_ ?_
    · exact ⟨none, none, none, rfl, er0, s4⟩
    · rintro i σ H' ⟨u, v, w, rfl, hr, ss⟩
      exact ⟨(e3.same ss).sq, SqT.of (ss _ _ e4)⟩
    · rintro i x y TT σ H' hx hy ⟨u, v, w, rfl, hr, ss⟩ nTT
      obtain ⟨z, hz⟩ : ∃ z, zs[i]? = some z := by
        rw [← hz1, List.getElem?_map] at hy
        cases e : zs[i]? with
        | none => rw [e] at hy; cases hy
        | some z => exact ⟨z, rfl⟩
      have hy2 : z.1 = y := by rw [← hz1, List.getElem?_map, hz] at hy; exact Option.some.inj hy
      have hk : L.kps[i]? = some z.2 := by rw [← hz2, List.getElem?_map, hz]; rfl
      have hi : i < L.kps.length := (List.getElem?_eq_some_iff.mp hk).1
      obtain rfl : V.str z.2.1 = x := by rw [List.getElem?_map, List.getElem?_map, hk] at hx; exact Option.some.inj hx
      obtain ⟨q, ts, ex, eq, ep⟩ := hz3 z (List.mem_of_getElem? hz)
      obtain ⟨zx, kq⟩ := z
      dsimp only at hy2 hk ex eq ep
      subst hy2
      subst ex
      have km := List.mem_of_getElem? hk
      obtain ⟨q1, q2, q3⟩ := ok.q kq km
      have sT : Same H' (upd H' TT (.tup [.str kq.1, .ref q])) := same_new nTT
      refine ⟨TT, _, rfl, SqT.of upd_same, rfl, _, _, rfl, _, _, rfl, rfl, ?_⟩
      have hr' := sT _ _ hr
      have ss' := ss.trans sT
      show _
      generalize upd H' TT (.tup [.str kq.1, .ref q]) = HT at sT hr' ss'
      refine ⟨_, rfl, .inl ⟨rfl, _, SqL.of hr'⟩, ⟨_, rfl⟩, _, rfl, few_ok rfl, fun l3 n3 => ?_⟩
      have s5 : Same HT (upd HT l3 (.lst [.str "keeper", .str kq.1])) := same_new n3
      have eq5 := s5 _ _ (ss' _ _ eq)
      have ep5 : Pieces (upd HT l3 (.lst [.str "keeper", .str kq.1])) ts kq.2 := ep.tups (.of (ss'.trans s5))
      have el5 : upd HT l3 (.lst [.str "keeper", .str kq.1]) l3 = some (.lst [.str "keeper", .str kq.1]) := upd_same
      generalize upd HT l3 (.lst [.str "keeper", .str kq.1]) = H5 at s5 eq5 ep5 el5
      obtain ⟨ws, hw1, hw2, hw3⟩ := paired_zip ep5
      have wl : ws.length = kq.2.length := by rw [← hw2, List.length_map]
      have pw : ∀ p ∈ kq.2, p.length ≤ 4 ∧ ∀ x ∈ p, x.length ≤ 6 := fun p hp => ⟨Nat.le_trans (q3 p hp).len p4, fun x hx => pl x ((q3 p hp).sub x hx)⟩
      have jp : ∀ p ∈ kq.2, _ := fun p hp => join_le (s := ("+" : Str)) (pw p hp).1 (pw p hp).2
      have wk : ∀ x ∈ wordsK kq, x.length ≤ 28 := fun x hx => by
        rcases List.mem_cons.mp hx with rfl | hx
        · decide
        rcases List.mem_cons.mp hx with rfl | hx
        · exact Nat.le_trans (name_len _ (ok.kp kq km)) (by decide)
        obtain ⟨p, hp, rfl⟩ := List.mem_map.mp hx
        exact (jp p hp).2
      have jk := join_le (s := (" " : Str)) (n := 4) (by show (kq.2.map pieceW).length + 1 + 1 ≤ 4; rw [List.length_map]; omega) wk
      refine ⟨_, rfl, q, rfl, ⟨_, SqT.of eq5⟩, lc_over (Q := fun x H1 => rCat (.ref l3) x H1 _) walk_tup ws (·.1) (fun z => some (.str (pieceW z.2))) hw1.symm (by omega) (fun H s => sqT_same s (SqT.of eq5)) ?_ ?_⟩
      · intro j b H6 R Rn hb s6 k1 k2
        obtain ⟨t, et, eh⟩ := hw3 b (List.mem_of_getElem? hb)
        have bm : b.2 ∈ kq.2 := by rw [← hw2]; exact List.mem_map.mpr ⟨b, List.mem_of_getElem? hb, rfl⟩
        refine ⟨rfl, ⟨_, rfl⟩, _, rfl, t, b.2.map V.str, by rw [et], .inr (SqT.of (s6 _ _ eh)), fun l9 n9 => ?_⟩
        exact ⟨_, l9, b.2, rfl, rfl, .inl (SqL.of upd_same), Nat.le_trans (jp _ bm).1 (by decide), k1 _ _ rfl (same_new n9)⟩
      · intro D H6 nD s6 eD
        have fe : (ws.filterMap fun z => some (V.str (pieceW z.2))) = (kq.2.map pieceW).map V.str := by
          rw [← hw2]
          simp [Function.comp_def]
        rw [fe] at eD
        refine ⟨l3, D, _, _, rfl, rfl, s6 _ _ el5, eD, by rw [List.length_map, List.length_map, sizeLine_eq]; show 2 + kq.2.length ≤ _; omega, fun p np => ?_⟩
        have s7 : Same H6 (upd H6 p (.lst ([.str "keeper", .str kq.1] ++ (kq.2.map pieceW).map V.str))) := same_new np
        refine ⟨_, p, wordsK kq, rfl, rfl, .inl (SqL.of upd_same), Nat.le_trans jk.1 (by decide), ?_⟩
        have sH : Same HT (upd H6 p (.lst ([.str "keeper", .str kq.1] ++ (kq.2.map pieceW).map V.str))) := (s5.trans s6).trans s7
        refine ⟨rw0, _, _, rfl, rfl, sH _ _ hr', by rw [List.length_map, List.length_cons, List.length_map, List.length_take, sizeLine_eq]; have := ok.k6; omega, ?_⟩
        refine ⟨_, _, _, rfl, ?_, fun b o e => ?_⟩
        · rw [upd_same, List.take_add_one, hk]
          simp
          rfl
        · rw [upd_ne (ne_of_none e nHr)]
          exact sH _ _ (ss' _ _ e)
    · rintro σ H' ⟨u, v, w, rfl, hr, ss⟩
      rw [List.length_map, List.length_map, List.take_length] at hr
      refine ⟨⟨_, rfl⟩, _, rfl, _, rw0, rowsL L, rfl, rfl, .inl (SqL.of hr), ?_, k H' ss⟩
      exact Nat.le_trans (join_le (s := ("\n" : Str)) (n := 7) (c := 120) (by show (L.kps.map lineK).length + 1 ≤ 7; rw [List.length_map]; have := ok.k6; omega) (rows_len ok)).1 (by decide)
end
end K6
set_option Elab.async false
set_option linter.all false
set_option maxRecDepth 100000
set_option maxHeartbeats 4000000
/-! Part S: set(x) of unlike texts, its length. -/
namespace LkS
open PySem PySem.Spec PyProof.Rows
section
variable {p : Program} {w : World} {A : Around} {R : Result → Shared → Prop} {I : Addr} {fp wr : List Addr} {G : Array GenState → Array GenState → Prop} {n : Nat} {P : Nat → Value → Prop} {St : Nat → Shared → Prop}
theorem any_take_not {zs : List Str} (nd : zs.Nodup) {i : Nat} (hi : i < zs.length) : (zs.take i).any (· == zs.getD i Str.empty) = false := by
  have e : zs.getD i Str.empty = zs[i] := by simp [List.getD_eq_getElem?_getD, hi]
  rw [e, List.any_eq_false]
  intro z hz q
  have q2 : z = zs[i] := by simpa using q
  obtain ⟨j, hj, ej⟩ := List.mem_iff_getElem.mp hz
  rw [List.getElem_take] at ej
  have hj2 : j < i := by rw [List.length_take] at hj; omega
  exact (List.pairwise_iff_getElem.mp nd) j i (by omega) hi hj2 (ej.trans q2)
theorem strs_put (W : WalksS p w A.in1 I fp wr G n P St) (S : Addr) (out : S ∉ fp) (zs : List Str) (sz : zs.length = n) (nd : zs.Nodup) (few : n + 1 < scanBound) (val : ∀ i v, P i v → ∃ t, v = .str (zs.getD i Str.empty) t) :
    ∀ (d i : Nat) (s : Shared), n - i = d → i ≤ n → St i s → s.heap.SetOf (strKind p w) S (fun y => (zs.take i).any (· == y)) i →
      (∀ s2, Moved (S :: wr) G s s2 → s2.heap.SetOf (strKind p w) S (fun y => zs.any (· == y)) n → R (.ok (.ret .none)) s2) → codeAny (model p w) A (.builtin "set.update.loop" ⟨[.ref S, .ref I], []⟩) R s := by
  have out2 : S ∉ wr := fun q => out (W.sub _ q)
  have wide : ∀ b ∈ wr, b ∈ S :: wr := fun b q => List.mem_cons_of_mem _ q
  intro d
  induction d with
  | zero =>
    intro i s ed hi st has fin
    obtain rfl : i = n := by omega
    refine codeAny_builtin F.entry_set_update_loop ?_; rw [Around.under_plainId F.plain_set_update_loop _]
    show wpAny _ A.in1 (pyNext (.ref I) >>= _) _ _ s; refine wpAny_bind (W.done s _ _ st fun s2 mv => ?_)
    show wpAny _ A.in1 (ret Value.none) _ _ s2
    have e : zs.take i = zs := List.take_of_length_le (by omega)
    rw [e] at has
    obtain ⟨o, es, ep, t, ho, more⟩ := has
    exact wpAny_pure (fin s2 (mv.mono wide) ⟨o, es, ep, t, mv.heap S _ out2 ho, more⟩)
  | succ d ih =>
    intro i s ed hi st has fin
    have lt : i < n := by omega
    refine codeAny_builtin F.entry_set_update_loop ?_; rw [Around.under_plainId F.plain_set_update_loop _]
    show wpAny _ A.in1 (pyNext (.ref I) >>= _) _ _ s; refine wpAny_bind (W.item i s _ _ lt st fun v s2 pv st2 mv => ?_)
    obtain ⟨t, rfl⟩ := val i v pv
    have has2 : s2.heap.SetOf (strKind p w) S (fun y => (zs.take i).any (· == y)) i := by
      obtain ⟨o, es, ep, tb, ho, more⟩ := has
      exact ⟨o, es, ep, tb, mv.heap S _ out2 ho, more⟩
    show wpAny _ A.in1 (holding [Value.str (zs.getD i Str.empty) t] (setAdd S (.str (zs.getD i Str.empty) t)) >>= _) _ _ s2
    refine wpAny_bind (wpAny_holding ?_); unfold setAdd; refine wpAny_holding (wpAny_bind ((strKind p w).pyHash (k := zs.getD i Str.empty) (strKind_is _ _ _ _) ?_))
    refine wpAny_setAddHashed_of (knd := strKind p w) (s := { s2 with toks := s2.toks + 1 }) (strKind_is _ _ _ _) rfl has2 (by omega) fun g same has3 => ?_
    have has4 : g.SetOf (strKind p w) S (fun y => (zs.take (i + 1)).any (· == y)) (i + 1) := by
      have no := any_take_not nd (i := i) (by omega)
      have lt2 : i < zs.length := by omega
      refine SetOf_congr has3 (fun y => ?_) (by rw [no]; rfl)
      rw [List.take_add_one, List.any_append, List.getD_eq_getElem?_getD, List.getElem?_eq_getElem lt2]
      simp only [Option.getD_some, Option.toList_some, List.any_cons, List.any_nil, Bool.or_false]
      congr 1
      by_cases q : y = zs[i]
      · simp [q]
      · have q2 : ¬ zs[i] = y := fun z => q z.symm
        simp [q, q2]
    refine wpAny_pure ⟨plainId_quiet F.plain_set_update_loop _, ih (i + 1) _ (by omega) lt (W.frame _ s2 _ _ st2 (Nat.le_succ _) fun b hb o e => ?_) has4 fun s3 mv3 has5 => ?_⟩
    · rw [same.2 b (fun q : b = S => out (by rw [← q]; exact hb))] <;> exact e
    · refine fin s3 (Moved.trans W.gtrans ((mv.mono wide).then_heap (Nat.le_succ _) fun b o nb e => ?_) mv3) has5
      rw [same.2 b (fun q : b = S => nb (by rw [q]; exact List.mem_cons_self))] <;> exact e
end
abbrev emptyS (led : Bool) : Obj := { cls := .type "set", dict := none, data := .set #[] 0 (.fresh 0 0 led) }
section
variable {p : Program} {w : World} {A : Around} {E : Value → Shared → Prop} {s : Shared}

set_option maxHeartbeats 8000000 in
/-- set(x), x a list of unlike texts -/
theorem set_of_list {l : Addr} {its : Array Value} {zs : List Str} {Q : Value → Shared → Prop} (calm : A.handled = none) (at_ : s.heap.IsList l its) (are : StrsAre its.toList zs) (nd : zs.Nodup) (few : zs.length + 1 < scanBound)
    (k : ∀ (g : Heap) (tk : Nat), g.SetOf (strKind p w) s.heap.objs.size (fun y => zs.any (· == y)) its.size → (∀ b o, s.heap.get? b = some o → g.get? b = some o) → Q (.ref s.heap.objs.size) { s with heap := g, toks := tk }) : wpAny (model p w) A (call (.type "set") [.ref l]) Q E s := by
  obtain ⟨c0, c1, eMro⟩ := F.called_set.mro; have eMade := F.called_set.made; have eSub := F.called_set.sub
  refine wpAny_call (codeAny_of_tree ?_); show wpAny _ _ (callAny (.type "set") _) _ _ _
  refine wpAny_pure ⟨Code.quiet_builtin _ (by decide +kernel), codeAny_builtin F.entry_type_call ?_⟩; rw [Around.under_plain (weight_type_call_type "set" [.ref l] []) rfl]
  have e1 := F.called_set.notType; have e2 := F.called_set.canCreate; have e3 := F.typeCall_set_1 (.ref l)
  repeat (any_goals (first | assumption | wp_step))
  refine codeAny_mono (code_set_new_1 (.ref l) (E := E) (Q₁ := fun o s₁ => ∃ led, o = .ref s.heap.objs.size ∧ s₁ = { s with heap := s.heap.push (emptyS led) }) fun led => ⟨led, rfl, rfl⟩) fun r s₁ er => ?_
  match r, er with
  | .error _, er => exact er
  | .ok .next, er => exact er.elim
  | .ok .brk, er => exact er.elim
  | .ok .cont, er => exact er.elim
  | .ok (.ret o), ⟨led, e5, e6⟩ =>
    subst e5 e6
    have eS : (s.heap.push (emptyS led)).get? s.heap.objs.size = some (emptyS led) := Heap.get?_push_size _ rfl
    have eT : Shared.TypeIs { s with heap := s.heap.push (emptyS led) } (.ref s.heap.objs.size) "set" := ⟨_, eS, rfl⟩
    have e7 := F.called_set.init.lookup; have e8 := F.called_set.init.bind (.ref s.heap.objs.size)
    repeat (any_goals (first | assumption | wp_step))
    refine codeAny_mono (codeAny_call_builtin (R := wants (fun r s₂ => r = .none ∧ ∃ g tk, s₂ = { s with heap := g, toks := tk } ∧ g.SetOf (strKind p w) s.heap.objs.size (fun y => zs.any (· == y)) its.size ∧ ∀ b o, s.heap.get? b = some o → g.get? b = some o) E) F.called_set.init.plain F.entry_set_init (check_set_init_1 eT ?_)) fun r₂ s₂ er₂ => ?_
    · obtain ⟨⟨cls, odc, odt, osl⟩, here, ecl, m, edt⟩ := at_
      simp only at ecl edt; subst ecl edt
      have here2 : (s.heap.push (emptyS led)).get? l = some { cls := .type "list", dict := odc, data := .seq its m, slots := osl } := Heap.get?_push_of_some _ here
      have f1 := F.sub_list_set; have f2 := F.sub_list_frozenset; have f3 : (Value.type "list" == Value.type "dict") = false := by decide
      have its1 : (s.heap.push (emptyS led)).IsList l its := ⟨_, here2, rfl, m, rfl⟩
      unfold Builtin.«set.__init__» noKeywords Builtin.Frozenset.updateFrom
      generalize eIter : pyIter = It
      wp_walk
      subst eIter
      refine wpAny_pyIter_list its1 (wpAny_bind (wpAny_runValue ?_))
      have lt : l < s.heap.objs.size := Heap.lt_size here
      have calm3 : A.in1.in1.in1.handled = none := by simp [calm]
      have ps : (s.heap.push (emptyS led)).objs.size = s.heap.objs.size + 1 := Heap.size_push ..
      have n1 : l ≠ (s.heap.push (emptyS led)).objs.size := by rw [ps]; exact Nat.ne_of_lt (Nat.lt_succ_of_lt lt)
      have n2 : s.heap.objs.size ∉ [(s.heap.push (emptyS led)).objs.size, l] := by simp only [List.mem_cons, List.not_mem_nil, or_false, not_or, ps]; exact ⟨Nat.ne_of_lt (Nat.lt_succ_self _), Nat.ne_of_gt lt⟩
      have sz : zs.length = its.size := by rw [← StrsAre.len_eq are, Array.length_toList]
      have eS2 : ((s.heap.push (emptyS led)).push { cls := .type "list_iterator", data := .fields #[.ref l, .int 0 0] }).get? s.heap.objs.size = some (emptyS led) := Heap.get?_push_of_some _ eS
      refine strs_put ((Walks.list calm3 _ l n1 its).toS) s.heap.objs.size n2 zs sz nd (by omega) (fun i v ev => SS.strs_at are i v (by rw [Array.getElem?_toList]; exact ev)) its.size 0 _ rfl (Nat.zero_le _) ⟨⟨_, Heap.get?_push_size _ rfl, rfl, rfl⟩, its1.push _⟩
        (SetOf_congr ((setObjOf_fresh (knd := strKind p w) led).setOf eS2 (by unfold scanBound; omega)) (fun _ => rfl) rfl) fun s3 mv S3 => ?_
      obtain ⟨g3, gs3, dr3, tk3, os3⟩ := s3
      obtain rfl : gs3 = s.gens := mv.gens; obtain rfl : dr3 = s.drawn := mv.drawn; obtain rfl : os3 = s.os := mv.os
      show wpAny _ _ _ _ _ _; refine wpAny_pure ?_
      show wpAny _ _ (ret Value.none) _ _ _; refine wpAny_pure ⟨rfl, g3, tk3, rfl, S3, fun b o e => ?_⟩
      have lb : b < s.heap.objs.size := Heap.lt_size e
      exact mv.heap b o (by simp only [List.mem_cons, List.not_mem_nil, or_false, not_or, ps]; exact ⟨Nat.ne_of_lt lb, Nat.ne_of_lt (Nat.lt_succ_of_lt lb)⟩) (Heap.get?_push_of_some _ (Heap.get?_push_of_some _ e))
    · match r₂, er₂ with
      | .error _, er₂ => exact er₂
      | .ok .next, er₂ => exact er₂.elim
      | .ok .brk, er₂ => exact er₂.elim
      | .ok .cont, er₂ => exact er₂.elim
      | .ok (.ret _), ⟨e9, g, tk, e10, S9, k9⟩ =>
        subst e9 e10
        repeat (any_goals (first | assumption | wp_step))
        exact k _ _ S9 k9

set_option maxHeartbeats 8000000 in
/-- set(x), x a tuple of unlike texts -/
theorem set_of_tuple {l : Addr} {its : Array Value} {zs : List Str} {Q : Value → Shared → Prop} (calm : A.handled = none) (at_ : s.heap.IsTuple l its) (are : StrsAre its.toList zs) (nd : zs.Nodup) (few : zs.length + 1 < scanBound)
    (k : ∀ (g : Heap) (tk : Nat), g.SetOf (strKind p w) s.heap.objs.size (fun y => zs.any (· == y)) its.size → (∀ b o, s.heap.get? b = some o → g.get? b = some o) → Q (.ref s.heap.objs.size) { s with heap := g, toks := tk }) : wpAny (model p w) A (call (.type "set") [.ref l]) Q E s := by
  obtain ⟨c0, c1, eMro⟩ := F.called_set.mro; have eMade := F.called_set.made; have eSub := F.called_set.sub
  refine wpAny_call (codeAny_of_tree ?_); show wpAny _ _ (callAny (.type "set") _) _ _ _
  refine wpAny_pure ⟨Code.quiet_builtin _ (by decide +kernel), codeAny_builtin F.entry_type_call ?_⟩; rw [Around.under_plain (weight_type_call_type "set" [.ref l] []) rfl]
  have e1 := F.called_set.notType; have e2 := F.called_set.canCreate; have e3 := F.typeCall_set_1 (.ref l)
  repeat (any_goals (first | assumption | wp_step))
  refine codeAny_mono (code_set_new_1 (.ref l) (E := E) (Q₁ := fun o s₁ => ∃ led, o = .ref s.heap.objs.size ∧ s₁ = { s with heap := s.heap.push (emptyS led) }) fun led => ⟨led, rfl, rfl⟩) fun r s₁ er => ?_
  match r, er with
  | .error _, er => exact er
  | .ok .next, er => exact er.elim
  | .ok .brk, er => exact er.elim
  | .ok .cont, er => exact er.elim
  | .ok (.ret o), ⟨led, e5, e6⟩ =>
    subst e5 e6
    have eS : (s.heap.push (emptyS led)).get? s.heap.objs.size = some (emptyS led) := Heap.get?_push_size _ rfl
    have eT : Shared.TypeIs { s with heap := s.heap.push (emptyS led) } (.ref s.heap.objs.size) "set" := ⟨_, eS, rfl⟩
    have e7 := F.called_set.init.lookup; have e8 := F.called_set.init.bind (.ref s.heap.objs.size)
    repeat (any_goals (first | assumption | wp_step))
    refine codeAny_mono (codeAny_call_builtin (R := wants (fun r s₂ => r = .none ∧ ∃ g tk, s₂ = { s with heap := g, toks := tk } ∧ g.SetOf (strKind p w) s.heap.objs.size (fun y => zs.any (· == y)) its.size ∧ ∀ b o, s.heap.get? b = some o → g.get? b = some o) E) F.called_set.init.plain F.entry_set_init (check_set_init_1 eT ?_)) fun r₂ s₂ er₂ => ?_
    · obtain ⟨⟨cls, odc, odt, osl⟩, here, ecl, m, edt⟩ := at_
      simp only at ecl edt; subst ecl edt
      have here2 : (s.heap.push (emptyS led)).get? l = some { cls := .type "tuple", dict := odc, data := .seq its m, slots := osl } := Heap.get?_push_of_some _ here
      have f1 := F.sub_tuple_set; have f2 := F.sub_tuple_frozenset; have f3 : (Value.type "tuple" == Value.type "dict") = false := by decide
      have its1 : (s.heap.push (emptyS led)).IsTuple l its := ⟨_, here2, rfl, m, rfl⟩
      unfold Builtin.«set.__init__» noKeywords Builtin.Frozenset.updateFrom
      generalize eIter : pyIter = It
      wp_walk
      subst eIter
      refine wpAny_pyIter_tuple its1 (wpAny_bind (wpAny_runValue ?_))
      have lt : l < s.heap.objs.size := Heap.lt_size here
      have calm3 : A.in1.in1.in1.handled = none := by simp [calm]
      have ps : (s.heap.push (emptyS led)).objs.size = s.heap.objs.size + 1 := Heap.size_push ..
      have n1 : l ≠ (s.heap.push (emptyS led)).objs.size := by rw [ps]; exact Nat.ne_of_lt (Nat.lt_succ_of_lt lt)
      have n2 : s.heap.objs.size ∉ [(s.heap.push (emptyS led)).objs.size, l] := by simp only [List.mem_cons, List.not_mem_nil, or_false, not_or, ps]; exact ⟨Nat.ne_of_lt (Nat.lt_succ_self _), Nat.ne_of_gt lt⟩
      have sz : zs.length = its.size := by rw [← StrsAre.len_eq are, Array.length_toList]
      have eS2 : ((s.heap.push (emptyS led)).push { cls := .type "tuple_iterator", data := .fields #[.ref l, .int 0 0] }).get? s.heap.objs.size = some (emptyS led) := Heap.get?_push_of_some _ eS
      refine strs_put ((Walks.tuple calm3 _ l n1 its).toS) s.heap.objs.size n2 zs sz nd (by omega) (fun i v ev => SS.strs_at are i v (by rw [Array.getElem?_toList]; exact ev)) its.size 0 _ rfl (Nat.zero_le _) ⟨⟨_, Heap.get?_push_size _ rfl, rfl, rfl⟩, its1.push _⟩
        (SetOf_congr ((setObjOf_fresh (knd := strKind p w) led).setOf eS2 (by unfold scanBound; omega)) (fun _ => rfl) rfl) fun s3 mv S3 => ?_
      obtain ⟨g3, gs3, dr3, tk3, os3⟩ := s3
      obtain rfl : gs3 = s.gens := mv.gens; obtain rfl : dr3 = s.drawn := mv.drawn; obtain rfl : os3 = s.os := mv.os
      show wpAny _ _ _ _ _ _; refine wpAny_pure ?_
      show wpAny _ _ (ret Value.none) _ _ _; refine wpAny_pure ⟨rfl, g3, tk3, rfl, S3, fun b o e => ?_⟩
      have lb : b < s.heap.objs.size := Heap.lt_size e
      exact mv.heap b o (by simp only [List.mem_cons, List.not_mem_nil, or_false, not_or, ps]; exact ⟨Nat.ne_of_lt lb, Nat.ne_of_lt (Nat.lt_succ_of_lt lb)⟩) (Heap.get?_push_of_some _ (Heap.get?_push_of_some _ e))
    · match r₂, er₂ with
      | .error _, er₂ => exact er₂
      | .ok .next, er₂ => exact er₂.elim
      | .ok .brk, er₂ => exact er₂.elim
      | .ok .cont, er₂ => exact er₂.elim
      | .ok (.ret _), ⟨e9, g, tk, e10, S9, k9⟩ =>
        subst e9 e10
        repeat (any_goals (first | assumption | wp_step))
        exact k _ _ S9 k9
end
end LkS
namespace Lk
open PySem PySem.Spec PyProof.Rows L2
/-- len(set(x)), x a list or a tuple of unlike texts -/
def tLenSetD (K : PySem.W.Frag) (ta : TE) : TE := fun σ H Q => ta σ H fun x H1 => ∃ l, ∃ zs : List Str, x = .ref l ∧ Sq K H1 l (zs.map V.str) ∧ zs.Nodup ∧ zs.length ≤ 1000 ∧ Q (.int zs.length) H1
theorem pe_lenSetD {X : Cx} {a : Expr} {ta : TE} {u1 u2 u3 pos : Pos} (hc : X.calm = true) (hg : Gl X "len") (hm : X.mg "len" = none) (hg2 : Gl X "set") (hm2 : X.mg "set" = none) (ha : PE X a ta)
    (na : starEach [a] X.env = (false, eval a X.env) :: starEach [] X.env := by rfl) : PE X (.Call (.Name "len" u1) [.Call (.Name "set" u2) [a] [] u3] [] pos) (tLenSetD X.K ta) := by
  refine ⟨fun pins s σ H Q I h => Call_ (ld_blt I hg hm boot_len (callWith_builtin1 (args_cons ?_ rfl) rfl rfl))⟩
  refine Call_ (ld_blt I hg2 hm2 boot_set (callWith_type1 (args_cons (thn (ha.run pins s σ H _ I h) fun v s1 ⟨x, H1, I1, r1, q1⟩ => args_nil ?_) na) na rfl))
  obtain ⟨l, zs, rfl, sq, nd, few, q1⟩ := q1
  cases r1
  have lb : zs.length + 1 < scanBound := by unfold scanBound; omega
  have go : ∀ (its : List Value), Vals (zs.map V.str) its → ∀ (g : Heap) (tk : Nat), g.SetOf (strKind X.prog X.w) s1.heap.objs.size (fun y => zs.any (· == y)) its.toArray.size → (∀ b o, s1.heap.get? b = some o → g.get? b = some o) →
      wpAny (model X.prog X.w) X.A (spliced (backTo pos (starEach [] X.env))) (fun vs s₂ => wpAny (model X.prog X.w) X.A (call (.builtin "len") (Value.ref s1.heap.objs.size :: vs)) (EP X pins σ Q) X.xe s₂) X.xe { s1 with heap := g, toks := tk } := fun its r g tk has keep => by
    refine args_nil ?_
    have sz : its.toArray.size = zs.length := by rw [List.size_toArray, ← r.length, List.length_map]
    rw [sz] at has
    obtain ⟨o, es, ep, t, ho, hex, hd, _, _, _, hf, hn⟩ := has
    have I2 : Inv X pins σ H1 { s1 with heap := g, toks := tk } := I1.kept fun b o e => keep b o e
    exact call_len_set ho hex hd hf (by rw [hn] <;> unfold scanBound at lb <;> omega) ⟨.int zs.length, H1, I2.tok _, ⟨_, by rw [hn]⟩, q1⟩
  rcases sq with sq | sq
  · obtain ⟨its, r, pl, _⟩ := I1.list sq
    exact LkS.set_of_list (I1.ok.hd hc) pl.isList (by simpa using strsAre_of r) nd lb fun g tk has keep => go its r g tk has keep
  · obtain ⟨its, r, pl, _⟩ := I1.tuple sq
    exact LkS.set_of_tuple (I1.ok.hd hc) pl (by simpa using strsAre_of r) nd lb fun g tk has keep => go its r g tk has keep
end Lk
set_option Elab.async false
set_option linter.all false
set_option maxRecDepth 100000
set_option maxHeartbeats 4000000
set_option pp.maxSteps 1200
set_option pp.deepTerms false
namespace K6
open PySem PySem.Spec PyProof.Rows L2 Lk
abbrev sIsName : Stmt := top 14
abbrev sAreNames : Stmt := top 15
def LETTERS : Str := "abcdefghijklmnopqrstuvwxyz"
/-- more names that the text leaves alone, and its constants -/
structure Cn (mg : Str → Option Value) : Prop where
  str : mg "str" = none
  tuple : mg "tuple" = none
  set : mg "set" = none
  sum : mg "sum" = none
  sorted : mg "sorted" = none
  zip : mg "zip" = none
  dict : mg "dict" = none
  letters : ∃ t, mg "LETTERS" = some (.str LETTERS t)
  parts : ∃ t, mg "MOST_PARTS" = some (.int 4 t)
  least : ∃ t, mg "LEAST_KEEPERS" = some (.int 2 t)
  most : ∃ t, mg "MOST_KEEPERS" = some (.int 6 t)
  pieces : ∃ t, mg "MOST_PIECES" = some (.int 2 t)
def LowOk (z : Str) : Prop := 1 ≤ z.length ∧ z.length ≤ 8 ∧ ∀ c ∈ z.cps.toList, c ∈ LETTERS.cps.toList
instance (z : Str) : Decidable (LowOk z) := by unfold LowOk; infer_instance
theorem low_parts : ∀ p ∈ partPool, LowOk p := by decide +kernel
theorem low_names : ∀ p ∈ namePool, LowOk p := by decide +kernel
theorem str_lc {z : Str} {g : TG} {tt : TT} {te : TE} {vs : List Nat} {σ : L2.St} {H1 : Hp} {Q : VK} (f : Nat → Option V) (few : z.cps.toList.length ≤ 100000)
    (hs : ∀ (i : Nat) c H (R : VK) (Rn : Hp → Prop), z.cps.toList[i]? = some c → Same H1 H → (∀ H4 y, f c = some y → Same H H4 → R y H4) → (∀ H4, f c = none → Same H H4 → Rn H4) →
      g (.str ⟨#[c]⟩) (wipe σ vs) H fun σ2 H2 => wipe σ2 vs = wipe σ vs ∧ tt σ2 H2 fun c H3 => if c = true then te σ2 H3 R else Rn H3)
    (hd : ∀ D H, H1 D = none → Same H1 H → H D = some (.lst (z.cps.toList.filterMap f)) → Q (.ref D) H) : LcR (Its z) g tt te vs σ H1 Q := by
  intro D nD
  refine lc_fm walk_str z.cps.toList f (by simp) (by simpa using few) nD (fun _ _ => trivial) ?_ (fun H s e => hd D H nD s e)
  rintro i x b H H' R Rn hb s ⟨rfl, c, hc, rfl⟩ k1 k2
  have : b = c := by
    rw [Array.getElem?_toList, hc] at hb
    exact (Option.some.inj hb).symm
  subst this
  exact hs i b _ R Rn hb s k1 k2
theorem fm_bl {α : Type} (q : α → Bool) (xs : List α) : (xs.filterMap fun x => some (V.bl (q x))) = (xs.map q).map V.bl := by
  induction xs with
  | nil => rfl
  | cons x xs ih => simp [List.filterMap_cons, ih]
/-- all([q(x) for x in xs]) -/
theorem seq_all {α : Type} {K : PySem.W.Frag} {a : Addr} {g : TG} {te : TE} {vs : List Nat} {σ : L2.St} {H1 : Hp} {R : VK} (xs : List α) (e : α → V) (q : α → Bool) (hq : Sq K H1 a (xs.map e)) (few : xs.length ≤ 100000)
    (hs : ∀ (i : Nat) b H (R' : VK), xs[i]? = some b → Same H1 H → (∀ H4, Same H H4 → R' (.bl (q b)) H4) → g (e b) (wipe σ vs) H fun σ2 H2 => wipe σ2 vs = wipe σ vs ∧ te σ2 H2 R')
    (hd : ∀ H, Same H1 H → R (.bl (xs.all q)) H) :
    ((∃ zs, SqL K H1 a zs) ∧ LcR (Itl K a) g tYes te vs σ H1 fun x H2 => tNil σ H2 fun xs H3 => rAll K (x :: xs) H3 R) ∨ ((∃ zs, SqT K H1 a zs) ∧ LcR (Itt K a) g tYes te vs σ H1 fun x H2 => tNil σ H2 fun xs H3 => rAll K (x :: xs) H3 R) := by
  refine seq_lc (Q := fun x H2 => rAll K [x] H2 R) xs e (fun x => some (.bl (q x))) hq few (fun i b H R' Rn hb s k1 k2 => ?_) fun D H nD s ed => ?_
  · have z := hs i b H R' hb s fun H4 s4 => k1 H4 _ rfl s4
    have ty : (fun σ2 H2 => wipe σ2 vs = wipe σ vs ∧ te σ2 H2 R') = (fun (σ2 : L2.St) H2 => wipe σ2 vs = wipe σ vs ∧ tYes σ2 H2 fun c H3 => if c = true then te σ2 H3 R' else Rn H3) := by
      funext σ2 H2
      show _ = (_ ∧ (if true = true then te σ2 H2 R' else Rn H2))
      rw [if_pos rfl]
    rw [ty] at z
    exact z
  · rw [fm_bl] at ed
    refine ⟨D, _, rfl, SqL.of ed, ?_⟩
    have : (xs.map q).all id = xs.all q := by simp [List.all_map]
    rw [this]
    exact hd H s
section
variable {P : Program} {w : World} {K : PySem.W.Frag} {mg : Str → Option Value} {base : Heap} {f : Addr} {fd : FuncData}
theorem isi_str {K : PySem.W.Frag} {H : Hp} {z : Str} {Q : VK} (q : Q (.bl true) H) : rIsi K [.str z, .ty "str"] H Q := ⟨_, _, _, _, true, rfl, .ty _, .base (.str _), by rfl, q⟩
def spIsName : Sp := fun vs H Q _ => ∃ z : Str, vs = [.str z] ∧ LowOk z ∧ ∀ H', Same H H' → Q (.bl true) H'
theorem scIsName : FnScope ["value", "sign"] ["value"] (defScope sIsName) := ⟨rfl, rfl, rfl, by decide +kernel, rfl, by decide +kernel, by decide +kernel⟩
theorem ok_isName (F : Fun K "is_name" "is_name" sIsName f fd) (T : Bl mg) (C : Cn mg) : FnOk P w K mg base CX0 1 f fd ["value"] spIsName := by
  refine F.ok scIsName (fun vs H Q E h => ?_) (fun cdv A outer s H vs Q E hr h => ?_)
  · obtain ⟨z, rfl, _⟩ := h
    rfl
  · obtain ⟨z, rfl, ⟨z1, z8, zl⟩, k⟩ := h
    have nd := scIsName.nd
    obtain ⟨t, ht⟩ := C.letters
    refine ⟨_, pss_cons (ps_if (PW.pt (pw_or (pt_not (pt_val (pe_callB call_isi (by rfl) T.isin boot_isinstance (pa_cons (pv 0) (pa_cons (pe_bltn (v := .ty "str") (by rfl) C.str rfl rfl) pa_nil)))))
        (pw_or1 (pt_not (pt_chain op_le op_le pe_int (pe_callB call_len_str (by rfl) T.len PySem.boot_len (pa_cons (pv 0) pa_nil)) pe_int))))) (pss_no) pss_nil)
      (pss_one (ps_ret (pe_callB (cr_all rfl) (by rfl) T.all boot_all (pa_cons (pe_lc (own := [("sign", 1)]) (g := gName 1) (tt := tYes) (te := tOp (fun x y H Q => ∃ (c : Nat) (z : Str), x = .str ⟨#[c]⟩ ∧ y = .str z ∧ Q (.bl (decide (c ∈ z.cps.toList))) H) (tVar 1) (tC (.str LETTERS))) rfl nd (pi_str (pv 0)) (blkOk_by (N := ["value", "sign"]) (sc := defScope sIsName) (by decide +kernel))
          (fun _ _ _ _ _ => pg_name (i := 1) nd rfl (Or.inl rfl)) (fun _ _ _ _ _ => pts_nil) (fun _ _ _ _ _ => pe_cmpR op_in_sign (pv 1) (pe_glob (v := .str LETTERS) (by rfl) ht ⟨_, rfl⟩) rfl)) pa_nil)))), ?_⟩
    refine ⟨_, rfl, _, _, _, _, true, rfl, .ty _, .base (.str _), by rfl, _, rfl, iteB rfl ?_⟩
    refine ⟨_, rfl, z, rfl, by rw [sizeLine_eq]; omega, _, _, rfl, rfl, _, rfl, iteA (decide_eq_true (by show (1 : Int) ≤ z.length; omega)) ?_⟩
    refine ⟨_, _, rfl, rfl, _, rfl, iteB ?_ ?_⟩
    · show (!decide ((z.length : Int) ≤ 8)) = false
      rw [decide_eq_true (by omega)]
      rfl
    have zz : z.cps.toList.length ≤ 8 := by simpa [Str.length] using z8
    refine ⟨_, rfl, z, rfl, str_lc (Q := fun x H1 => rAll K [x] H1 Q) (fun c => some (.bl (decide (c ∈ LETTERS.cps.toList)))) (by omega) ?_ ?_⟩
    · intro i c H1 R Rn hc s1 k1 k2
      exact ⟨rfl, _, rfl, c, LETTERS, rfl, rfl, k1 _ _ rfl (Same.refl _)⟩
    · intro D H1 nD s1 e
      rw [fm_bl] at e
      refine ⟨D, _, rfl, SqL.of e, ?_⟩
      have : (z.cps.toList.map fun c => decide (c ∈ LETTERS.cps.toList)).all id = true := by
        rw [List.all_eq_true]
        intro b hb
        obtain ⟨c, hc, rfl⟩ := List.mem_map.mp hb
        exact decide_eq_true (zl c hc)
      rw [this]
      exact k _ s1
/-! ### are_names -/
def spAreNames (K : PySem.W.Frag) : Sp := fun vs H Q _ => ∃ (l : Addr) (zs : List Str), vs = [.ref l] ∧ Sq K H l (zs.map V.str) ∧ zs.length ≤ 1000 ∧ (∀ z ∈ zs, LowOk z) ∧ zs.Nodup ∧ ∀ H', Same H H' → Q (.bl true) H'
theorem scAreNames : FnScope ["some", "name"] ["some"] (defScope sAreNames) := ⟨rfl, rfl, rfl, by decide +kernel, rfl, by decide +kernel, by decide +kernel⟩
theorem ok_areNames {f1 : Addr} {fd1 : FuncData} (F : Fun K "are_names" "are_names" sAreNames f fd) (T : Bl mg) (C : Cn mg) (F1 : Fun K "is_name" "is_name" sIsName f1 fd1) (b1 : Binds K fd1 ["value"] []) (m1 : mg "is_name" = some (.ref f1)) :
    FnOk P w K mg base CX0 2 f fd ["some"] (spAreNames K) := by
  have G1 : FnOk P w K mg base CX0 1 f1 fd1 ["value"] spIsName := ok_isName F1 T C
  refine F.ok scAreNames (fun vs H Q E h => ?_) (fun cdv A outer s H vs Q E hr h => ?_)
  · obtain ⟨l, zs, rfl, _⟩ := h
    rfl
  · obtain ⟨l, zs, rfl, hl, few, low, ndz, k⟩ := h
    have nd := scAreNames.nd
    refine ⟨_, pss_one (ps_ret (pe_and (pe_callB (cr_all rfl) (by rfl) T.all boot_all (pa_cons (pe_lc (own := [("name", 1)]) (g := gName 1) (tt := tYes) (te := tCall spIsName [] E0 (tCons (tVar 1) tNil)) rfl nd (pi_seq (pi_list (pv 0)) (pi_tup (pv 0))) (blkOk_by (N := ["some", "name"]) (sc := defScope sAreNames) (by decide +kernel))
          (fun _ _ _ _ _ => pg_name (i := 1) nd rfl (Or.inl rfl)) (fun _ _ _ _ _ => pts_nil) (fun _ _ _ _ _ => pe_call G1 hr (by rfl) m1 F1.kp b1 .nil pass0 (pa_cons (pv 1) pa_nil))) pa_nil))
        (pe_one (pe_cmpR op_eq (pe_lenSetD rfl (by rfl) T.len (by rfl) C.set (pv 0)) (pe_callB call_len_seq (by rfl) T.len PySem.boot_len (pa_cons (pv 0) pa_nil)) (nomark _))))), ?_⟩
    refine ⟨l, rfl, seq_all zs V.str (fun _ => true) hl (by omega) (fun i z H1 R hz s1 k1 => ⟨rfl, _, rfl, z, rfl, low z (List.mem_of_getElem? hz), fun H2 s2 => k1 _ s2⟩) fun H1 s1 => ?_⟩
    have : (zs.all fun _ => true) = true := by simp
    rw [this]
    refine ⟨_, rfl, iteT ⟨_, rfl, l, zs, rfl, hl.same s1, ndz, few, _, rfl, l, _, rfl, hl.same s1, rfl, ?_⟩⟩
    rw [List.length_map, decide_eq_true rfl]
    exact k _ s1
end
end K6
set_option Elab.async false
set_option linter.all false
set_option maxRecDepth 100000
set_option maxHeartbeats 4000000
set_option pp.maxSteps 1200
set_option pp.deepTerms false
/-! what is written is read again -/
namespace K6
open PySem PySem.Spec PyProof.Rows L2 Lk
open TL
theorem mem_joinL {c : Nat} {S : List Nat} : ∀ {ps : List (List Nat)}, c ∈ joinL S ps → c ∈ S ∨ ∃ p ∈ ps, c ∈ p
  | [], h => by simp [joinL] at h
  | [p], h => .inr ⟨p, List.mem_cons_self, h⟩
  | p :: q :: r, h => by
    have h2 : c ∈ p ++ (S ++ joinL S (q :: r)) := h
    rcases List.mem_append.mp h2 with h | h
    · exact .inr ⟨p, List.mem_cons_self, h⟩
    rcases List.mem_append.mp h with h | h
    · exact .inl h
    rcases mem_joinL h with h | ⟨x, hx, h⟩
    · exact .inl h
    · exact .inr ⟨x, List.mem_cons_of_mem _ hx, h⟩
theorem mem_join {c : Nat} {s : Str} {xs : List Str} (h : c ∈ tl (Txt.join s xs)) : c ∈ tl s ∨ ∃ x ∈ xs, c ∈ tl x := by
  rw [join_eq, tl_join] at h
  rcases mem_joinL h with h | ⟨p, hp, h⟩
  · exact .inl h
  · obtain ⟨x, hx, rfl⟩ := List.mem_map.mp hp
    exact .inr ⟨x, hx, h⟩
theorem part_signs : ∀ p ∈ partPool, 43 ∉ tl p ∧ 32 ∉ tl p ∧ 10 ∉ tl p := by decide +kernel
theorem name_signs : ∀ p ∈ namePool, 32 ∉ tl p ∧ 10 ∉ tl p := by decide +kernel
theorem split_piece {L : Lore} (ok : LoreOk L) {p : List Str} (h : PieceOk L.parts p) : Txt.split (pieceW p) "+" = p :=
  split_join (s := 43) (S := []) rfl (by decide +kernel) h.1 fun x hx => (part_signs x (ok.pp x (h.sub x hx))).1
theorem split_lineP {L : Lore} (ok : LoreOk L) : Txt.split (lineP L) " " = ("parts" : Str) :: L.parts :=
  split_join (s := 32) (S := []) rfl (by decide +kernel) (by simp) fun x hx => by
    rcases List.mem_cons.mp hx with rfl | hx
    · decide +kernel
    · exact (part_signs x (ok.pp x hx)).2.1
theorem words_signs {L : Lore} (ok : LoreOk L) {k : KP} (km : k ∈ L.kps) : ∀ x ∈ wordsK k, 32 ∉ tl x ∧ 10 ∉ tl x := fun x hx => by
  rcases List.mem_cons.mp hx with rfl | hx
  · decide +kernel
  rcases List.mem_cons.mp hx with rfl | hx
  · exact name_signs _ (ok.kp k km)
  obtain ⟨p, hp, rfl⟩ := List.mem_map.mp hx
  have e : ∀ c : Nat, c ∉ tl ("+" : Str) → (∀ q ∈ partPool, c ∉ tl q) → c ∉ tl (pieceW p) := fun c h1 h2 h3 => by
    rcases mem_join h3 with h | ⟨y, hy, h⟩
    · exact h1 h
    · exact h2 y (ok.pp y ((((ok.q k km).2.2 p hp)).sub y hy)) h
  exact ⟨e 32 (by decide +kernel) fun q hq => (part_signs q hq).2.1, e 10 (by decide +kernel) fun q hq => (part_signs q hq).2.2⟩
theorem split_lineK {L : Lore} (ok : LoreOk L) {k : KP} (km : k ∈ L.kps) : Txt.split (lineK k) " " = wordsK k :=
  split_join (s := 32) (S := []) rfl (by decide +kernel) (by unfold wordsK; simp) fun x hx => (words_signs ok km x hx).1
theorem split_text {L : Lore} (ok : LoreOk L) : Txt.split (textL L) "\n" = rowsL L :=
  split_join (s := 10) (S := []) rfl (by decide +kernel) (by unfold rowsL; simp) fun x hx => by
    rcases List.mem_cons.mp hx with rfl | hx
    · intro h
      rcases mem_join h with h | ⟨y, hy, h⟩
      · exact absurd h (by decide +kernel)
      rcases List.mem_cons.mp hy with rfl | hy
      · exact absurd h (by decide +kernel)
      · exact (part_signs y (ok.pp y hy)).2.2 h
    · obtain ⟨k, hk, rfl⟩ := List.mem_map.mp hx
      intro h
      rcases mem_join h with h | ⟨y, hy, h⟩
      · exact absurd h (by decide +kernel)
      · exact (words_signs ok hk y hy).2 h
end K6
set_option Elab.async false
set_option linter.all false
set_option maxRecDepth 100000
set_option maxHeartbeats 4000000
set_option pp.maxSteps 1200
set_option pp.deepTerms false
namespace K6
open PySem PySem.Spec PyProof.Rows L2 Lk
abbrev sPartsLine : Stmt := top 34
abbrev sPieceWord : Stmt := top 35
abbrev sWhole : Stmt := top 36
theorem cut1 (xs : List V) (h : 1 ≤ xs.length) : cutV xs (some 1) none = xs.drop 1 := by
  show (xs.drop (min 1 xs.length)).take (xs.length - min 1 xs.length) = _
  rw [Nat.min_eq_left h]
  exact List.take_of_length_le (by rw [List.length_drop]; omega)
theorem at0 {xs : List V} {v : V} (h : xs[0]? = some v) : atI xs 0 = some v := atI_nat h
theorem at1 {xs : List V} {v : V} (h : xs[1]? = some v) : atI xs 1 = some v := atI_nat h
section
variable {P : Program} {w : World} {K : PySem.W.Frag} {mg : Str → Option Value} {base : Heap} {f : Addr} {fd : FuncData}
/-! ### is_parts_line -/
def spPartsLine : Sp := fun vs H Q _ => ∃ L : Lore, vs = [.str (lineP L)] ∧ LoreOk L ∧ ∀ H', Same H H' → Q (.bl true) H'
theorem scPartsLine : FnScope ["line", "words"] ["line"] (defScope sPartsLine) := ⟨rfl, rfl, rfl, by decide +kernel, rfl, by decide +kernel, by decide +kernel⟩
theorem ok_partsLine {f1 f2 : Addr} {fd1 fd2 : FuncData} (F : Fun K "is_parts_line" "is_parts_line" sPartsLine f fd) (T : Bl mg) (C : Cn mg) (F1 : Fun K "is_name" "is_name" sIsName f1 fd1) (b1 : Binds K fd1 ["value"] []) (m1 : mg "is_name" = some (.ref f1))
    (F2 : Fun K "are_names" "are_names" sAreNames f2 fd2) (b2 : Binds K fd2 ["some"] []) (m2 : mg "are_names" = some (.ref f2)) :
    FnOk P w K mg base CX0 3 f fd ["line"] spPartsLine := by
  have G2 : FnOk P w K mg base CX0 2 f2 fd2 ["some"] (spAreNames K) := ok_areNames F2 T C F1 b1 m1
  refine F.ok scPartsLine (fun vs H Q E h => ?_) (fun cdv A outer s H vs Q E hr h => ?_)
  · obtain ⟨L, rfl, _⟩ := h
    rfl
  · obtain ⟨L, rfl, ok, k⟩ := h
    have nd := scPartsLine.nd
    obtain ⟨t4, h4⟩ := C.parts
    refine ⟨_, pss_cons (ps_set (i := 1) nd rfl (.inl rfl) (pe_split (pv 0) pe_str))
      (pss_one (ps_ret (pe_and (pe_cmpR op_eq (pe_ix ix_list (pv 1) pe_int (fun _ _ => rfl)) pe_str (nomark _))
        (pe_and (pe_chain op_le op_le pe_int (pe_callB call_len_seq (by rfl) T.len PySem.boot_len (pa_cons (pv 1) pa_nil)) (pe_op op_add pe_int (pe_glob (v := .int 4) (by rfl) h4 ⟨_, rfl⟩)))
          (pe_one (pe_call G2 hr (by rfl) m2 F2.kp b2 .nil pass0 (pa_cons (pe_slice sl_list (pv 1) (po_some pe_int) po_none) pa_nil))))))), ?_⟩
    have ll : (lineP L).length ≤ 120 := rows_len ok _ List.mem_cons_self
    refine ⟨_, rfl, ⟨_, rfl⟩, _, _, rfl, rfl, rfl, by rw [sizeLine_eq]; omega, fun l nl => ?_⟩
    rw [split_lineP ok]
    have s1 : Same H (upd H l (.lst ((("parts" : Str) :: L.parts).map V.str))) := same_new nl
    have el : upd H l (.lst ((("parts" : Str) :: L.parts).map V.str)) l = some (.lst ((("parts" : Str) :: L.parts).map V.str)) := upd_same
    generalize upd H l (.lst ((("parts" : Str) :: L.parts).map V.str)) = H1 at s1 el
    have p0 := ok.p0
    have p4 := ok.p4
    have len : (List.map V.str (("parts" : Str) :: L.parts)).length = L.parts.length + 1 := by rw [List.length_map]; rfl
    refine ⟨_, rfl, l, _, _, .str "parts", rfl, rfl, SqL.of el, at0 rfl, rfl, _, rfl, iteA (decide_eq_true rfl) ?_⟩
    refine ⟨_, rfl, l, _, rfl, .inl (SqL.of el), _, _, rfl, rfl, _, rfl, iteA (decide_eq_true (by rw [len]; omega)) ?_⟩
    refine ⟨_, _, rfl, rfl, _, _, rfl, rfl, _, rfl, iteA (decide_eq_true (by rw [len]; show ((L.parts.length + 1 : Nat) : Int) ≤ 1 + 4; omega)) ?_⟩
    refine ⟨_, rfl, _, rfl, l, _, rfl, SqL.of el, fun q nq => ?_⟩
    rw [cut1 _ (by rw [len]; omega)]
    refine ⟨q, L.parts, rfl, .inl (SqL.of upd_same), by omega, fun z hz => low_parts z (ok.pp z hz), ok.pn, fun H' s' => k _ ((s1.trans (same_new nq)).trans s')⟩
/-! ### is_piece_word -/
theorem prs_self {zs : List Str} {H : Hp} : Prs DFlat (zs.map V.str) (zs.map V.str) H := ⟨rfl, fun i x y hx hy => by
  rw [hx] at hy
  cases hy
  obtain ⟨z, _, rfl⟩ := List.mem_map.mp (List.mem_of_getElem? hx)
  exact ⟨rfl, rfl, by simp [eqV]⟩⟩
def spPieceWord (K : PySem.W.Frag) : Sp := fun vs H Q _ => ∃ (l : Addr) (L : Lore) (p : List Str), vs = [.ref l, .str (pieceW p)] ∧ LoreOk L ∧ SqL K H l (L.parts.map V.str) ∧ PieceOk L.parts p ∧ ∀ H', Same H H' → Q (.bl true) H'
theorem scPieceWord : FnScope ["parts", "word", "some", "part"] ["parts", "word"] (defScope sPieceWord) := ⟨rfl, rfl, rfl, by decide +kernel, rfl, by decide +kernel, by decide +kernel⟩
theorem ok_pieceWord (F : Fun K "is_piece_word" "is_piece_word" sPieceWord f fd) (T : Bl mg) : FnOk P w K mg base CX0 2 f fd ["parts", "word"] (spPieceWord K) := by
  refine F.ok scPieceWord (fun vs H Q E h => ?_) (fun cdv A outer s H vs Q E hr h => ?_)
  · obtain ⟨l, L, p, rfl, _⟩ := h
    rfl
  · obtain ⟨l, L, p, rfl, ok, hl, po, k⟩ := h
    have nd := scPieceWord.nd
    refine ⟨_, pss_cons (ps_set (i := 2) nd rfl (.inr rfl) (pe_split (pv 1) pe_str))
      (pss_one (ps_ret (pe_cmpR (op_eqG (rcG_list mon_flat eqG_flat) hr) (pv 2) (pe_lc (own := [("part", 3)]) (g := gName 3) (tt := tTest (tOp (rIn K false) (tVar 3) (tVar 2))) rfl nd (pi_list (pv 0)) (blkOk_by (N := ["parts", "word", "some", "part"]) (sc := defScope sPieceWord) (by decide +kernel))
        (fun _ _ _ _ _ => pg_name (i := 3) nd rfl (Or.inl rfl)) (fun _ _ _ _ _ => pts_one (pt_cmpR op_in_seq (pv 3) (pv 2) rfl)) (fun _ _ _ _ _ => pv 3)) (nomark _)))), ?_⟩
    have p4 := ok.p4
    have pl := po.len
    have wl := (join_le (s := ("+" : Str)) (n := 4) (c := 6) (xs := p) (by omega) fun x hx => part_len x (ok.pp x (po.sub x hx))).2
    have wl2 : (pieceW p).length ≤ 120 := Nat.le_trans wl (by decide)
    refine ⟨_, rfl, ⟨_, rfl⟩, _, _, rfl, rfl, rfl, by rw [sizeLine_eq]; omega, fun q nq => ?_⟩
    rw [split_piece ok po]
    have s1 : Same H (upd H q (.lst (p.map V.str))) := same_new nq
    have eq1 : upd H q (.lst (p.map V.str)) q = some (.lst (p.map V.str)) := upd_same
    generalize upd H q (.lst (p.map V.str)) = H1 at s1 eq1
    have hl1 : SqL K H1 l (L.parts.map V.str) := s1.seq hl
    refine ⟨_, rfl, _, rfl, l, rfl, ⟨_, hl1⟩, lc_over (Q := fun x H1 => rEqG (DList DFlat) (.ref q) x H1 Q) walk_list L.parts V.str (fun x => if x ∈ p then some (V.str x) else none) rfl (by omega) (fun H s => s.seq hl1) ?_ ?_⟩
    · intro j b H' R Rn hb s' k1 k2
      refine ⟨rfl, _, rfl, _, rfl, q, _, rfl, .inl (SqL.of (s' _ _ eq1)), rfl, flat_strs _, _, rfl, ?_⟩
      rw [inV_str]
      by_cases hz : b ∈ p
      · refine iteA (by simp [hz]) ?_
        exact ⟨_, rfl, k1 _ _ (by simp [hz]) (Same.refl _)⟩
      · refine iteB (by simp [hz]) ?_
        exact k2 _ (by simp [hz]) (Same.refl _)
    · intro D H' nD s' e
      rw [fm_if, ← po.2] at e
      exact ⟨⟨q, D, _, _, rfl, rfl, s' _ _ eq1, e, prs_self⟩, fun H2 x2 => k H2 ((s1.trans s').trans x2)⟩
/-! ### is_whole_shelf -/
def spWhole (K : PySem.W.Frag) : Sp := fun vs H Q _ => ∃ (l : Addr) (xs : List V), vs = [.ref l] ∧ SqL K H l xs ∧ 3 ≤ xs.length ∧ Q (.bl true) H
theorem scWhole : FnScope ["lines"] ["lines"] (defScope sWhole) := ⟨rfl, rfl, rfl, by decide +kernel, rfl, by decide +kernel, by decide +kernel⟩
theorem ok_whole (F : Fun K "is_whole_shelf" "is_whole_shelf" sWhole f fd) (T : Bl mg) (C : Cn mg) : FnOk P w K mg base CX0 1 f fd ["lines"] (spWhole K) := by
  refine F.ok scWhole (fun vs H Q E h => ?_) (fun cdv A outer s H vs Q E hr h => ?_)
  · obtain ⟨l, xs, rfl, _⟩ := h
    rfl
  · obtain ⟨l, xs, rfl, hl, h3, k⟩ := h
    obtain ⟨t2, h2⟩ := C.least
    refine ⟨_, pss_one (ps_ret (pe_cmpR op_gt (pe_callB call_len_seq (by rfl) T.len PySem.boot_len (pa_cons (pv 0) pa_nil)) (pe_glob (v := .int 2) (by rfl) h2 ⟨_, rfl⟩) (nomark _))), ?_⟩
    refine ⟨_, rfl, l, _, rfl, .inl hl, _, _, rfl, rfl, ?_⟩
    show Q (.bl (decide ((2 : Int) < (xs.length : Int)))) H
    rw [decide_eq_true (by omega)]
    exact k
end
end K6
set_option Elab.async false
set_option linter.all false
set_option maxRecDepth 100000
set_option maxHeartbeats 4000000
set_option pp.maxSteps 1200
set_option pp.deepTerms false
namespace K6
open PySem PySem.Spec PyProof.Rows L2 Lk
abbrev sReadPieces : Stmt := top 37
abbrev sStands : Stmt := top 33
abbrev sWrong : Stmt := top 18
def rSplit : V → List V → Hp → VK → Prop := fun x xs H Q => ∃ a b, x = .str a ∧ xs = [.str b] ∧ (b.length == 0) = false ∧ a.length + 2 ≤ sizeLine ∧ rNewStrs (Txt.split a b) H Q
/-- all([q(x) for x in xs]), over what is walked -/
theorem all_over {α : Type} {K : PySem.W.Frag} {J : It} {G : Hp → Prop} {vs0 : List V} (w : Walk J vs0.length G (YAt vs0)) {g : TG} {te : TE} {vs : List Nat} {σ : L2.St} {H1 : Hp} {R : VK} (xs : List α) (e : α → V) (q : α → Bool)
    (hv : vs0 = xs.map e) (few : xs.length ≤ 100000) (hG : ∀ H, Same H1 H → G H)
    (hs : ∀ (i : Nat) b H (R' : VK), xs[i]? = some b → Same H1 H → (∀ H4, Same H H4 → R' (.bl (q b)) H4) → g (e b) (wipe σ vs) H fun σ2 H2 => wipe σ2 vs = wipe σ vs ∧ te σ2 H2 R')
    (hd : ∀ H, Same H1 H → R (.bl (xs.all q)) H) : LcR J g tYes te vs σ H1 fun x H2 => tNil σ H2 fun xs H3 => rAll K (x :: xs) H3 R := by
  refine lc_over (Q := fun x H2 => rAll K [x] H2 R) w xs e (fun x => some (.bl (q x))) hv few hG (fun i b H R' Rn hb s k1 k2 => ?_) fun D H nD s ed => ?_
  · have z := hs i b H R' hb s fun H4 s4 => k1 H4 _ rfl s4
    have ty : (fun (σ2 : L2.St) H2 => wipe σ2 vs = wipe σ vs ∧ tYes σ2 H2 fun c H3 => if c = true then te σ2 H3 R' else Rn H3) = (fun σ2 H2 => wipe σ2 vs = wipe σ vs ∧ te σ2 H2 R') := by
      funext σ2 H2
      exact congrArg (And _) (tYes_if σ2 H2 (fun H3 => te σ2 H3 _) _)
    rw [ty]
    exact z
  · rw [fm_bl] at ed
    refine ⟨D, _, rfl, SqL.of ed, ?_⟩
    have : (xs.map q).all id = xs.all q := by simp [List.all_map]
    rw [this]
    exact hd H s
section
variable {P : Program} {w : World} {K : PySem.W.Frag} {mg : Str → Option Value} {base : Heap} {f : Addr} {fd : FuncData}
/-! ### read_pieces -/
def RelP (H : Hp) (v : V) (p : List Str) : Prop := ∃ t, v = V.ref t ∧ H t = some (.tup (p.map V.str))
theorem RelP.keep (H H' : Hp) (v : V) (p : List Str) (k : Keep H H') (h : RelP H v p) : RelP H' v p := by
  obtain ⟨t, e, h⟩ := h
  exact ⟨t, e, k _ _ h fun xs z => by cases z⟩
def spReadPieces (K : PySem.W.Frag) : Sp := fun vs H Q _ => ∃ (l : Addr) (L : Lore) (ps : List (List Str)), vs = [.ref l] ∧ LoreOk L ∧ SqL K H l ((ps.map pieceW).map V.str) ∧ ps.length ≤ 1000 ∧ (∀ p ∈ ps, PieceOk L.parts p) ∧
  ∀ q ts H', Same H H' → H' q = some (.tup ts) → Pieces H' ts ps → Q (.ref q) H'
theorem scReadPieces : FnScope ["words", "word"] ["words"] (defScope sReadPieces) := ⟨rfl, rfl, rfl, by decide +kernel, rfl, by decide +kernel, by decide +kernel⟩
theorem ok_readPieces (F : Fun K "read_pieces" "read_pieces" sReadPieces f fd) (T : Bl mg) (C : Cn mg) : FnOk P w K mg base CX0 1 f fd ["words"] (spReadPieces K) := by
  refine F.ok scReadPieces (fun vs H Q E h => ?_) (fun cdv A outer s H vs Q E hr h => ?_)
  · obtain ⟨l, L, p, rfl, _⟩ := h
    rfl
  · obtain ⟨l, L, ps, rfl, ok, hl, few, po, k⟩ := h
    have nd := scReadPieces.nd
    refine ⟨_, pss_one (ps_ret (pe_tupleOf (by rfl) C.tuple (pe_lc (own := [("word", 1)]) (g := gName 1) (tt := tYes) (te := tThen (tM1 rSplit (tVar 1) (tC (.str "+"))) (kTup K)) rfl nd (pi_list (pv 0)) (blkOk_by (N := ["words", "word"]) (sc := defScope sReadPieces) (by decide +kernel))
        (fun _ _ _ _ _ => pg_name (i := 1) nd rfl (Or.inl rfl)) (fun _ _ _ _ _ => pts_nil) (fun _ _ _ _ _ => pe_tupleOf (by rfl) C.tuple (pe_split (pv 1) pe_str))))), ?_⟩
    refine ⟨_, rfl, l, rfl, ⟨_, hl⟩, lc_rel (Q := fun x H1 => kTup K x H1 Q) walk_list ps (fun p => V.str (pieceW p)) id RelP RelP.keep (by rw [List.map_map]; rfl) (by omega) (fun H s => s.seq hl) ?_ ?_⟩
    · intro i p H1 R hp s1 kk
      have pm := List.mem_of_getElem? hp
      have p4 := ok.p4
      have pl := (po p pm).len
      have wl := (join_le (s := ("+" : Str)) (n := 4) (c := 6) (xs := p) (by omega) fun x hx => part_len x (ok.pp x ((po p pm).sub x hx))).2
      have wl2 : (pieceW p).length ≤ 120 := Nat.le_trans wl (by decide)
      refine ⟨rfl, _, rfl, ⟨_, rfl⟩, _, _, rfl, rfl, rfl, by rw [sizeLine_eq]; omega, fun q nq => ?_⟩
      rw [split_piece ok (po p pm)]
      refine .inl ⟨q, _, rfl, SqL.of upd_same, fun t nt => ?_⟩
      exact kk _ _ ((same_new nq).trans (same_new nt)) ⟨t, rfl, upd_same⟩
    · intro D H1 ts nD s1 eD pr
      rw [List.map_id] at pr
      refine .inl ⟨D, _, rfl, SqL.of eD, fun q nq => k q ts _ (s1.trans (same_new nq)) upd_same (Pieces.tups pr (.of (same_new nq)))⟩
end
end K6
set_option Elab.async false
set_option linter.all false
set_option maxRecDepth 100000
set_option maxHeartbeats 4000000
set_option pp.maxSteps 1200
set_option pp.deepTerms false
namespace K6
open PySem PySem.Spec PyProof.Rows L2 Lk
theorem cut2 (xs : List V) (h : 2 ≤ xs.length) : cutV xs (some 2) none = xs.drop 2 := by
  show (xs.drop (min 2 xs.length)).take (xs.length - min 2 xs.length) = _
  rw [Nat.min_eq_left h]
  exact List.take_of_length_le (by rw [List.length_drop]; omega)
section
variable {P : Program} {w : World} {K : PySem.W.Frag} {mg : Str → Option Value} {base : Heap} {f : Addr} {fd : FuncData}
/-! ### stands_in_shelf -/
def spStands (K : PySem.W.Frag) : Sp := fun vs H Q _ => ∃ (l : Addr) (L : Lore) (i : Nat) (line : Str), vs = [.ref l, .str line] ∧ LoreOk L ∧ SqL K H l (((rowsL L).take i).map V.str) ∧ (rowsL L)[i]? = some line ∧ ∀ H', Same H H' → Q (.bl true) H'
theorem scStands : FnScope ["ahead", "line", "words", "taken", "parts", "row", "word"] ["ahead", "line"] (defScope sStands) := ⟨rfl, rfl, rfl, by decide +kernel, rfl, by decide +kernel, by decide +kernel⟩
theorem ok_stands {f1 f2 f3 f4 : Addr} {fd1 fd2 fd3 fd4 : FuncData} (F : Fun K "stands_in_shelf" "stands_in_shelf" sStands f fd) (T : Bl mg) (C : Cn mg) (F1 : Fun K "is_name" "is_name" sIsName f1 fd1) (b1 : Binds K fd1 ["value"] []) (m1 : mg "is_name" = some (.ref f1))
    (F2 : Fun K "are_names" "are_names" sAreNames f2 fd2) (b2 : Binds K fd2 ["some"] []) (m2 : mg "are_names" = some (.ref f2)) (F3 : Fun K "is_parts_line" "is_parts_line" sPartsLine f3 fd3) (b3 : Binds K fd3 ["line"] []) (m3 : mg "is_parts_line" = some (.ref f3))
    (F4 : Fun K "is_piece_word" "is_piece_word" sPieceWord f4 fd4) (b4 : Binds K fd4 ["parts", "word"] []) (m4 : mg "is_piece_word" = some (.ref f4)) : FnOk P w K mg base CX0 4 f fd ["ahead", "line"] (spStands K) := by
  have G1 : FnOk P w K mg base CX0 1 f1 fd1 ["value"] spIsName := ok_isName F1 T C
  have G3 : FnOk P w K mg base CX0 3 f3 fd3 ["line"] spPartsLine := ok_partsLine F3 T C F1 b1 m1 F2 b2 m2
  have G4 : FnOk P w K mg base CX0 2 f4 fd4 ["parts", "word"] (spPieceWord K) := ok_pieceWord F4 T
  refine F.ok scStands (fun vs H Q E h => ?_) (fun cdv A outer s H vs Q E hr h => ?_)
  · obtain ⟨l, L, i, line, rfl, _⟩ := h
    rfl
  · obtain ⟨l, L, i, line, rfl, ok, hl, hi, k⟩ := h
    have nd := scStands.nd
    obtain ⟨t1, h1⟩ := C.pieces
    obtain ⟨t2, h2⟩ := C.most
    have hr1 : Room 1 _ := hr.mono (by decide)
    have hr2 : Room 2 _ := hr.mono (by decide)
    refine ⟨_, pss_cons (ps_if (pt_cmpR op_eq (pe_callB call_len_seq (by rfl) T.len PySem.boot_len (pa_cons (pv 0) pa_nil)) pe_int (nomark _)) (pss_one (ps_ret (pe_call G3 hr (by rfl) m3 F3.kp b3 .nil pass0 (pa_cons (pv 1) pa_nil)))) pss_nil)
      (pss_cons (ps_set (i := 2) nd rfl (.inl rfl) (pe_split (pv 1) pe_str))
      (pss_cons (ps_if (PW.pt (pw_or (pt_cmpR op_ne (pe_ix ix_list (pv 2) pe_int (fun _ _ => rfl)) pe_str (nomark _)) (pw_or (pt_not (pt_chain op_le op_le pe_int (pe_callB call_len_seq (by rfl) T.len PySem.boot_len (pa_cons (pv 2) pa_nil)) (pe_op op_add pe_int (pe_glob (v := .int 2) (by rfl) h1 ⟨_, rfl⟩))))
          (pw_or1 (pt_cmpR op_gt (pe_callB call_len_seq (by rfl) T.len PySem.boot_len (pa_cons (pv 0) pa_nil)) (pe_glob (v := .int 6) (by rfl) h2 ⟨_, rfl⟩) (nomark _)))))) pss_no pss_nil)
      (pss_cons (ps_setLc (i := 3) (own := [("row", 5)]) (g := gName 5) (tt := tYes) (te := tOp (rIxL K) (tM1 rSplit (tVar 5) (tC (.str " "))) (tC (.int 1))) rfl nd rfl rfl (sw_true rfl rfl rfl (by decide +kernel)) (pi_list (pe_slice sl_list (pv 0) (po_some pe_int) po_none))
          (blkOk_by (N := ["ahead", "line", "words", "taken", "parts", "row", "word"]) (sc := defScope sStands) (by decide +kernel)) (fun _ _ _ _ _ => pg_name (i := 5) nd rfl (Or.inl rfl)) (fun _ _ _ _ _ => pts_nil) (fun _ _ _ _ _ => pe_ix ix_list (pe_split (pv 5) pe_str) pe_int (fun _ _ => rfl)))
      (pss_cons (ps_set (i := 4) nd rfl (.inr rfl) (pe_slice sl_list (pe_split (pe_ix ix_list (pv 0) pe_int (fun _ _ => rfl)) pe_str) (po_some pe_int) po_none))
        (pss_one (ps_ret (pe_and (pe_call G1 hr1 (by rfl) m1 F1.kp b1 .nil pass0 (pa_cons (pe_ix ix_list (pv 2) pe_int (fun _ _ => rfl)) pa_nil)) (pe_and (pe_cmpR op_notIn_seq (pe_ix ix_list (pv 2) pe_int (fun _ _ => rfl)) (pv 3) rfl)
          (pe_one (pe_callB (cr_all rfl) (by rfl) T.all boot_all (pa_cons (pe_lc (own := [("word", 6)]) (g := gName 6) (tt := tYes) (te := tCall (spPieceWord K) [] E0 (tCons (tVar 4) (tCons (tVar 6) tNil))) rfl nd (pi_list (pe_slice sl_list (pv 2) (po_some pe_int) po_none))
            (blkOk_by (N := ["ahead", "line", "words", "taken", "parts", "row", "word"]) (sc := defScope sStands) (by decide +kernel)) (fun _ _ _ _ _ => pg_name (i := 6) nd rfl (Or.inl rfl)) (fun _ _ _ _ _ => pts_nil)
            (fun _ _ _ _ _ => pe_call G4 hr2 (by rfl) m4 F4.kp b4 .nil pass0 (pa_cons (pv 4) (pa_cons (pv 6) pa_nil)))) pa_nil))))))))))), ?_⟩
    have rl : (rowsL L).length = L.kps.length + 1 := by show (L.kps.map lineK).length + 1 = _; rw [List.length_map]
    have il : i < (rowsL L).length := (List.getElem?_eq_some_iff.mp hi).1
    have xl : (List.map V.str ((rowsL L).take i)).length = i := by rw [List.length_map, List.length_take]; omega
    have k6 := ok.k6
    refine ⟨_, rfl, l, _, rfl, .inl hl, rfl, _, rfl, ?_⟩
    match i, hi, hl, il, xl with
    | 0, hi, hl, il, xl =>
      obtain rfl : lineP L = line := Option.some.inj hi
      exact iteA (decide_eq_true rfl) ⟨_, rfl, L, rfl, ok, k⟩
    | j + 1, hi, hl, il, xl =>
      refine iteB (decide_eq_false (by rw [xl]; intro z; injection z with z; omega)) ?_
      obtain ⟨kq, hk, rfl⟩ : ∃ kq, L.kps[j]? = some kq ∧ lineK kq = line := by
        have : (L.kps.map lineK)[j]? = some line := hi
        rw [List.getElem?_map] at this
        cases e : L.kps[j]? with
        | none => rw [e] at this; cases this
        | some kq => rw [e] at this; exact ⟨kq, rfl, Option.some.inj this⟩
      have km := List.mem_of_getElem? hk
      have lk : (lineK kq).length ≤ 120 := rows_len ok _ (List.mem_cons_of_mem _ (List.mem_map.mpr ⟨kq, km, rfl⟩))
      obtain ⟨q1, q2, q3⟩ := ok.q kq km
      refine ⟨_, rfl, ⟨_, rfl⟩, _, _, rfl, rfl, rfl, by rw [sizeLine_eq]; omega, fun q nq => ?_⟩
      rw [split_lineK ok km]
      have s1 : Same H (upd H q (.lst ((wordsK kq).map V.str))) := same_new nq
      have eq1 : upd H q (.lst ((wordsK kq).map V.str)) q = some (.lst ((wordsK kq).map V.str)) := upd_same
      generalize upd H q (.lst ((wordsK kq).map V.str)) = H1 at s1 eq1
      have wl : ((wordsK kq).map V.str).length = kq.2.length + 2 := by
        rw [List.length_map]
        show (kq.2.map pieceW).length + 1 + 1 = _
        rw [List.length_map]
      refine ⟨_, rfl, q, _, _, .str "keeper", rfl, rfl, SqL.of eq1, at0 rfl, rfl, _, rfl, iteB (by rw [decide_eq_true rfl]; rfl) ?_⟩
      refine ⟨_, rfl, q, _, rfl, .inl (SqL.of eq1), _, _, rfl, rfl, _, rfl, iteA (decide_eq_true (by rw [wl]; omega)) ?_⟩
      refine ⟨_, _, rfl, rfl, _, _, rfl, rfl, _, rfl, iteB (by rw [decide_eq_true (by rw [wl]; show ((kq.2.length + 2 : Nat) : Int) ≤ 2 + 2; omega)]; rfl) ?_⟩
      refine ⟨_, rfl, l, _, rfl, .inl (s1.seq hl), _, _, rfl, rfl, _, rfl, iteB (decide_eq_false (by rw [xl]; omega)) ?_⟩
      have hl1 := s1.seq hl
      have drop1 : cutV (List.map V.str ((rowsL L).take (j + 1))) (some 1) none = ((L.kps.take j).map fun k => V.str (lineK k)) := by
        rw [cut1 _ (by rw [xl]; omega)]
        show List.map V.str ((L.kps.map lineK).take j) = _
        rw [← List.map_take, List.map_map]
        rfl
      have tl6 : (L.kps.take j).length ≤ 6 := by rw [List.length_take]; omega
      refine ⟨_, rfl, _, rfl, l, _, rfl, hl1, fun p np => ?_⟩
      rw [drop1]
      have s2 : Same H1 (upd H1 p (.lst ((L.kps.take j).map fun k => V.str (lineK k)))) := same_new np
      have ep2 : SqL K (upd H1 p (.lst ((L.kps.take j).map fun k => V.str (lineK k)))) p ((L.kps.take j).map fun k => V.str (lineK k)) := SqL.of upd_same
      generalize upd H1 p (.lst ((L.kps.take j).map fun k => V.str (lineK k))) = H2 at s2 ep2
      refine ⟨p, rfl, ⟨_, ep2⟩, fun D nD => lc_fm (walk_list (a := p) (xs := (L.kps.take j).map fun k => V.str (lineK k))) (L.kps.take j) (fun k => some (V.str k.1)) (by rw [List.length_map]) (by rw [List.length_map]; omega) nD (fun H s => s.seq ep2) ?_ ?_⟩
      · rintro i' x k' H3 H3' R Rn hk' s3 ⟨rfl, hx⟩ k1 k2
        have km' : k' ∈ L.kps := List.mem_of_mem_take (List.mem_of_getElem? hk')
        obtain rfl : V.str (lineK k') = x := by
          rw [List.getElem?_map, hk'] at hx
          exact Option.some.inj hx
        have lk' : (lineK k').length ≤ 120 := rows_len ok _ (List.mem_cons_of_mem _ (List.mem_map.mpr ⟨k', km', rfl⟩))
        refine ⟨rfl, _, rfl, ⟨_, rfl⟩, _, _, rfl, rfl, rfl, by rw [sizeLine_eq]; omega, fun u nu => ?_⟩
        rw [split_lineK ok km']
        exact ⟨u, _, _, .str k'.1, rfl, rfl, SqL.of upd_same, at1 rfl, k1 _ _ rfl (same_new nu)⟩
      · intro H3 s3 eD
        have fe : ((L.kps.take j).filterMap fun k => some (V.str k.1)) = ((L.kps.take j).map (·.1)).map V.str := by simp [Function.comp_def]
        rw [fe] at eD
        have hl3 : SqL K H3 l _ := s3.seq (s2.seq hl1)
        have eq3 := s3 _ _ (s2 _ _ eq1)
        have lp : (lineP L).length ≤ 120 := rows_len ok _ List.mem_cons_self
        refine ⟨_, rfl, l, _, _, .str (lineP L), rfl, rfl, hl3, at0 rfl, ⟨_, rfl⟩, _, _, rfl, rfl, rfl, by rw [sizeLine_eq]; omega, fun u nu => ?_⟩
        rw [split_lineP ok]
        refine ⟨_, rfl, u, _, rfl, SqL.of upd_same, fun pa npa => ?_⟩
        rw [cut1 _ (by rw [List.length_map, List.length_cons]; omega)]
        have s4 : Same H3 (upd (upd H3 u (.lst ((("parts" : Str) :: L.parts).map V.str))) pa (.lst (List.drop 1 (List.map V.str (("parts" : Str) :: L.parts))))) := (same_new nu).trans (same_new npa)
        have epa : upd (upd H3 u (.lst ((("parts" : Str) :: L.parts).map V.str))) pa (.lst (List.drop 1 (List.map V.str (("parts" : Str) :: L.parts)))) pa = some (.lst (L.parts.map V.str)) := upd_same
        generalize upd (upd H3 u (.lst ((("parts" : Str) :: L.parts).map V.str))) pa (.lst (List.drop 1 (List.map V.str (("parts" : Str) :: L.parts)))) = H4 at s4 epa
        have eq4 := s4 _ _ eq3
        refine ⟨_, rfl, q, _, _, .str kq.1, rfl, rfl, SqL.of eq4, at1 rfl, kq.1, rfl, low_names _ (ok.kp kq km), fun H5 s5 => ⟨_, rfl, iteT ?_⟩⟩
        refine ⟨_, rfl, q, _, _, .str kq.1, rfl, rfl, SqL.of (s5 _ _ eq4), at1 rfl, _, rfl, D, _, rfl, .inl (SqL.of (s5 _ _ (s4 _ _ eD))), rfl, flat_strs _, _, rfl, iteA ?_ ?_⟩
        · rw [inV_str]
          have : kq.1 ∉ (L.kps.take j).map (·.1) := by
            intro m
            have nn := ok.kn
            rw [← List.take_append_drop j L.kps, List.map_append, List.nodup_append] at nn
            refine nn.2.2 _ m _ (List.mem_map.mpr ⟨kq, ?_, rfl⟩) rfl
            refine List.mem_of_getElem? (i := 0) ?_
            rw [List.getElem?_drop]
            exact hk
          simp only [if_true, Bool.not_eq_true', decide_eq_false_iff_not]
          exact this
        refine ⟨_, rfl, _, rfl, q, _, rfl, SqL.of (s5 _ _ eq4), fun v nv => ?_⟩
        rw [cut2 _ (by rw [wl]; omega)]
        refine ⟨v, rfl, ⟨_, SqL.of upd_same⟩, all_over walk_list kq.2 (fun p => V.str (pieceW p)) (fun _ => true) (by show List.map V.str (kq.2.map pieceW) = _; rw [List.map_map]; rfl) (by omega) (fun H s => s.seq (SqL.of upd_same)) ?_ ?_⟩
        · intro i' p' H6 R hp' s6 kk
          refine ⟨rfl, _, rfl, _, rfl, pa, L, p', rfl, ok, s6.seq ((same_new nv).seq (s5.seq (SqL.of epa))), q3 p' (List.mem_of_getElem? hp'), fun H7 s7 => kk H7 s7⟩
        · intro H6 s6
          have : (kq.2.all fun _ => true) = true := by simp
          rw [this]
          exact k _ (((((s1.trans s2).trans s3).trans s4).trans s5).trans ((same_new nv).trans s6))
end
end K6
set_option Elab.async false
set_option linter.all false
set_option maxRecDepth 100000
set_option maxHeartbeats 4000000
set_option pp.maxSteps 1200
set_option pp.deepTerms false
namespace K6
open PySem PySem.Spec PyProof.Rows L2 Lk
theorem cutT (xs : List V) (i : Nat) (h : i ≤ xs.length) : cutV xs none (some (i : Int)) = xs.take i := by
  show (xs.drop 0).take (HT.sIx xs.length xs.length (some (i : Int)) - 0) = _
  rw [HT.sIx_nat, Nat.min_eq_left h]
  rfl
section
variable {P : Program} {w : World} {K : PySem.W.Frag} {mg : Str → Option Value} {base : Heap} {f : Addr} {fd : FuncData}
/-! ### wrong_line, of a text that stands -/
def spWrong (fS fW : Addr) : Sp := fun vs H Q _ => ∃ L : Lore, vs = [.str (textL L), .ref fS, .ref fW] ∧ LoreOk L ∧ ∀ H', Same H H' → Q .non H'
theorem scWrong : FnScope ["text", "can_stand", "is_whole", "lines", "number", "line"] ["text", "can_stand", "is_whole"] (defScope sWrong) := ⟨rfl, rfl, rfl, by decide +kernel, rfl, by decide +kernel, by decide +kernel⟩
theorem text_len {L : Lore} (ok : LoreOk L) : (textL L).length ≤ 1000 := by
  have k6 := ok.k6
  exact Nat.le_trans (join_le (s := ("\n" : Str)) (n := 7) (c := 120) (by show (L.kps.map lineK).length + 1 ≤ 7; rw [List.length_map]; omega) (rows_len ok)).2 (by decide)
theorem ok_wrong {fS fW : Addr} {fdS fdW : FuncData} (F : Fun K "wrong_line" "wrong_line" sWrong f fd) (T : Bl mg) (C : Cn mg)
    (GS : FnOk P w K mg base CX0 4 fS fdS ["ahead", "line"] (spStands K)) (kS : PySem.W.keepIn K (.ref fS) = true) (bS : Binds K fdS ["ahead", "line"] [])
    (GW : FnOk P w K mg base CX0 1 fW fdW ["lines"] (spWhole K)) (kW : PySem.W.keepIn K (.ref fW) = true) (bW : Binds K fdW ["lines"] []) : FnOk P w K mg base CX0 5 f fd ["text", "can_stand", "is_whole"] (spWrong fS fW) := by
  refine F.ok scWrong (fun vs H Q E h => ?_) (fun cdv A outer s H vs Q E hr h => ?_)
  · obtain ⟨L, rfl, _⟩ := h
    rfl
  · obtain ⟨L, rfl, ok, k⟩ := h
    have nd := scWrong.nd
    have hr1 : Room 1 _ := hr.mono (by decide)
    refine ⟨_, pss_cons (ps_if (pt_not (pt_val (pe_callB call_isi (by rfl) T.isin boot_isinstance (pa_cons (pv 0) (pa_cons (pe_bltn (v := .ty "str") (by rfl) C.str rfl rfl) pa_nil))))) pss_no pss_nil)
      (pss_cons (ps_set (i := 3) nd rfl (.inl rfl) (pe_split (pv 0) pe_str))
      (pss_cons (ps_for PassesOwn.never rfl (pi_enum (by rfl) T.enum (pa_cons (pv 3) pa_nil)) (pg_tup rfl (pgs_cons (pg_name (i := 4) nd rfl (.inl rfl)) (pgs_cons (pg_name (i := 5) nd rfl (.inl rfl)) pgs_nil)))
          (pss_one (ps_if (pt_not (pt_val (pe_callL GS hr (i := 1) rfl (.inl rfl) kS bS .nil pass0 (pa_cons (pe_slice sl_list (pv 3) po_none (po_some (pv 4))) (pa_cons (pv 5) pa_nil))))) pss_no pss_nil)))
        (pss_one (ps_ret (pe_ifExp (pt_val (pe_callL GW hr1 (i := 2) rfl (.inl rfl) kW bW .nil pass0 (pa_cons (pv 3) pa_nil))) pe_non pe_no))))), ?_⟩
    have tl := text_len ok
    have rl : (rowsL L).length = L.kps.length + 1 := by show (L.kps.map lineK).length + 1 = _; rw [List.length_map]
    refine ⟨_, rfl, _, _, _, _, true, rfl, .ty _, .base (.str _), by rfl, _, rfl, iteB rfl ?_⟩
    refine ⟨_, rfl, ⟨_, rfl⟩, _, _, rfl, rfl, rfl, by rw [sizeLine_eq]; omega, fun l nl => ?_⟩
    rw [split_text ok]
    have s1 : Same H (upd H l (.lst ((rowsL L).map V.str))) := same_new nl
    have el : upd H l (.lst ((rowsL L).map V.str)) l = some (.lst ((rowsL L).map V.str)) := upd_same
    generalize upd H l (.lst ((rowsL L).map V.str)) = H1 at s1 el
    have vl : ((rowsL L).map V.str).length = (rowsL L).length := List.length_map ..
    refine ⟨_, rfl, l, _, rfl, SqL.of el, for_it (walk_enum (xs := (rowsL L).map V.str)) (fun i σ H' => ∃ u v, σ = [some (.str (textL L)), some (.ref fS), some (.ref fW), some (.ref l), u, v] ∧ Same H1 H') ⟨none, none, rfl, Same.refl _⟩ (fun i σ H' _ ⟨_, _, _, s'⟩ => SqL.of (s' _ _ el)) ?_ ?_⟩
    · rintro i x σ H2 H3 hi ⟨u, v, rfl, s2⟩ ⟨t, a1, a2, rfl, nt, rfl, e1, e2⟩
      obtain rfl := Option.some.inj e1
      obtain ⟨line, hline, rfl⟩ : ∃ z, (rowsL L)[i]? = some z ∧ a2 = .str z := by
        have e2 : (List.map V.str (rowsL L))[i]? = some a2 := e2
        rw [List.getElem?_map] at e2
        cases e : (rowsL L)[i]? with
        | none => rw [e] at e2; cases e2
        | some z => rw [e] at e2; exact ⟨z, rfl, (Option.some.inj e2).symm⟩
      have s3 : Same H1 (upd H2 t (.tup [.int (i : Nat), .str line])) := s2.trans (same_new nt)
      refine ⟨t, _, rfl, SqT.of upd_same, rfl, _, _, rfl, _, _, rfl, rfl, ?_⟩
      refine ⟨rfl, _, rfl, _, rfl, _, rfl, l, _, rfl, SqL.of (s3 _ _ el), fun p np => ?_⟩
      rw [cutT _ i (by omega)]
      refine ⟨_, rfl, p, L, i, line, rfl, ok, by rw [List.map_take]; exact SqL.of upd_same, hline, fun H5 s5 => ⟨_, rfl, iteB rfl ?_⟩⟩
      exact ⟨_, _, rfl, (s3.trans (same_new np)).trans s5⟩
    · rintro σ H2 ⟨u, v, rfl, s2⟩
      refine ⟨rfl, _, rfl, l, _, rfl, SqL.of (s2 _ _ el), by rw [vl, rl]; have := ok.k2; omega, _, rfl, iteT ?_⟩
      exact k _ (s1.trans s2)
end
end K6
set_option Elab.async false
set_option linter.all false
set_option maxRecDepth 100000
set_option maxHeartbeats 4000000
set_option pp.maxSteps 1200
set_option pp.deepTerms false
namespace K6
open PySem PySem.Spec PyProof.Rows L2 Lk
abbrev sCircInit : Stmt := inClass (top 20) 0
/-- what is asked of the class Circle -/
structure CircC (K : PySem.W.Frag) (C fI : Addr) : Prop where
  cls : Cls K C
  nm : NoAttr K C "names"
  mkr : Mk K C fI
/-- a circle of these names -/
def CircAt (H : Hp) (C c : Addr) (zs : List Str) : Prop := ∃ dx nm, H c = some (.ins C dx [("names", .ref nm)]) ∧ TupX H nm (zs.map V.str)
section
variable {P : Program} {w : World} {K : PySem.W.Frag} {mg : Str → Option Value} {base : Heap} {f : Addr} {fd : FuncData}
theorem isi_tup {xs : List V} {H : Hp} {a : Addr} (h : TupX H a xs) : TyX K H (.ref a) (.type "tuple") := by
  obtain ⟨ob, e, _⟩ := h
  exact .fTuple e
def spCircI (K : PySem.W.Frag) (C : Addr) : Sp := fun vs H Q _ => ∃ (x nm dx : Addr) (zs : List Str), vs = [.ref x, .ref nm] ∧ H x = some (.ins C dx []) ∧ TupX H nm (zs.map V.str) ∧ 2 ≤ zs.length ∧ zs.length ≤ 6 ∧ (∀ z ∈ zs, LowOk z) ∧ zs.Nodup ∧
  ∀ H', (∀ b o, b ≠ x → H b = some o → H' b = some o) → H' x = some (.ins C dx [("names", .ref nm)]) → Q .non H'
theorem scCircI : FnScope ["self", "names"] ["self", "names"] (defScope sCircInit) := ⟨rfl, rfl, rfl, by decide +kernel, rfl, by decide +kernel, by decide +kernel⟩
theorem ok_circI {C fC : Addr} {f1 f2 : Addr} {fd1 fd2 : FuncData} (F : Fun K "__init__" "Circle.__init__" sCircInit f fd) (T : Bl mg) (Cc : Cn mg) (CC : CircC K C fC) (F1 : Fun K "is_name" "is_name" sIsName f1 fd1) (b1 : Binds K fd1 ["value"] []) (m1 : mg "is_name" = some (.ref f1))
    (F2 : Fun K "are_names" "are_names" sAreNames f2 fd2) (b2 : Binds K fd2 ["some"] []) (m2 : mg "are_names" = some (.ref f2)) : FnOk P w K mg base CX0 3 f fd ["self", "names"] (spCircI K C) := by
  have G2 : FnOk P w K mg base CX0 2 f2 fd2 ["some"] (spAreNames K) := ok_areNames F2 T Cc F1 b1 m1
  refine F.ok scCircI (fun vs H Q E h => ?_) (fun cdv A outer s H vs Q E hr h => ?_)
  · obtain ⟨x, nm, dx, zs, rfl, _⟩ := h
    rfl
  · obtain ⟨x, nm, dx, zs, rfl, hx, hn, z2, z6, low, ndz, k⟩ := h
    have nd := scCircI.nd
    refine ⟨_, pss_cons (ps_if (PW.pt (pw_or (pt_not (pt_val (pe_callB call_isi (by rfl) T.isin boot_isinstance (pa_cons (pv 1) (pa_cons (pe_bltn (v := .ty "tuple") (by rfl) Cc.tuple rfl rfl) pa_nil)))))
        (pw_or (pt_not (pt_chain op_le op_le pe_int (pe_callB call_len_seq (by rfl) T.len PySem.boot_len (pa_cons (pv 1) pa_nil)) pe_int))
        (pw_or1 (pt_not (pt_val (pe_call G2 hr (by rfl) m2 F2.kp b2 .nil pass0 (pa_cons (pv 1) pa_nil)))))))) pss_no pss_nil)
      (pss_one (ps_fld (pv 0) (pv 1) rfl)), ?_⟩
    have zl : ((zs.map V.str).length : Int) = zs.length := by rw [List.length_map]
    refine ⟨_, rfl, _, _, _, _, true, rfl, .ty _, isi_tup hn, by rfl, _, rfl, iteB rfl ?_⟩
    refine ⟨_, rfl, nm, _, rfl, .inr hn.sq, _, _, rfl, rfl, _, rfl, iteA (decide_eq_true (by rw [zl]; omega)) ?_⟩
    refine ⟨_, _, rfl, rfl, _, rfl, iteB (by rw [decide_eq_true (by rw [zl]; omega)]; rfl) ?_⟩
    refine ⟨_, rfl, nm, zs, rfl, .inr hn.sq, by omega, low, ndz, fun H1 s1 => ⟨_, rfl, iteB rfl ?_⟩⟩
    refine ⟨_, rfl, _, rfl, x, C, dx, [], rfl, s1 _ _ hx, CC.cls, CC.nm, by decide, ?_⟩
    exact k _ (fun b o nb e => by rw [upd_ne nb]; exact s1 _ _ e) upd_same
end
end K6
set_option Elab.async false
set_option linter.all false
set_option maxRecDepth 100000
set_option maxHeartbeats 4000000
set_option pp.maxSteps 1200
set_option pp.deepTerms false
namespace K6
open PySem PySem.Spec PyProof.Rows L2 Lk
abbrev sAllSpots : Stmt := top 38
theorem walk_zipT {K : PySem.W.Frag} {a b : Addr} {xs ys : List V} {n : Nat} (hn : n = min xs.length ys.length) : Walk (RZ.ItzT K a b) n (fun H => SqT K H a xs ∧ SqT K H b ys) (YPair (fun i => xs[i]?) (fun i => ys[i]?)) := by
  subst hn
  refine ⟨fun i H hi q => ⟨xs, ys, xs[i]'(by omega), ys[i]'(by omega), q.1, q.2, List.getElem?_eq_getElem (by omega), List.getElem?_eq_getElem (by omega)⟩, fun H q => ⟨xs, ys, q.1, q.2, by omega⟩, fun i H v H' _ q y => ?_⟩
  obtain ⟨T, x, z, h1, h2, h3, h4, h5⟩ := y
  exact ⟨T, x, z, h1, h2, h3, h4 xs q.1, h5 ys q.2⟩
/-! ### the spots -/
abbrev Spot := Str × Nat
def spotsOf (ks : List KP) : List Spot := ks.flatMap fun k => (List.range k.2.length).map fun i => (k.1, i)
def RelS (H : Hp) (v : V) (s : Spot) : Prop := ∃ t, v = V.ref t ∧ H t = some (.tup [.str s.1, .int (s.2 : Int)])
theorem RelS.keep (H H' : Hp) (v : V) (s : Spot) (k : Keep H H') (h : RelS H v s) : RelS H' v s := by
  obtain ⟨t, e, h⟩ := h
  exact ⟨t, e, k _ _ h fun xs z => by cases z⟩
/-- the tuple of the tuples of pieces, as a shelf holds it -/
def PcsAt (H : Hp) (q : Addr) (ks : List KP) : Prop := ∃ rows, H q = some (.tup rows) ∧ Paired (fun v (k : KP) => ∃ r ts, v = V.ref r ∧ H r = some (.tup ts) ∧ Pieces H ts k.2) rows ks
def rLenS (K : PySem.W.Frag) : List V → Hp → VK → Prop := fun xs H Q => ∃ p ys, xs = [.ref p] ∧ (SqL K H p ys ∨ SqT K H p ys) ∧ Q (.int ys.length) H
section
variable {P : Program} {w : World} {K : PySem.W.Frag} {mg : Str → Option Value} {base : Heap} {f : Addr} {fd : FuncData}
def spAllSpots (C : Addr) : Sp := fun vs H Q _ => ∃ (c q : Addr) (ks : List KP), vs = [.ref c, .ref q] ∧ CircAt H C c (ks.map (·.1)) ∧ PcsAt H q ks ∧ ks.length ≤ 6 ∧ (∀ k ∈ ks, k.2.length ≤ 2) ∧
  ∀ p ts H', Same H H' → H' p = some (.tup ts) → Paired (RelS H') ts (spotsOf ks) → Q (.ref p) H'
theorem scAllSpots : FnScope ["circle", "pieces", "keeper", "row", "number"] ["circle", "pieces"] (defScope sAllSpots) := ⟨rfl, rfl, rfl, by decide +kernel, rfl, by decide +kernel, by decide +kernel⟩
theorem ok_allSpots {C fC : Addr} (F : Fun K "all_spots" "all_spots" sAllSpots f fd) (T : Bl mg) (Cc : Cn mg) (CC : CircC K C fC) : FnOk P w K mg base CX0 1 f fd ["circle", "pieces"] (spAllSpots C) := by
  refine F.ok scAllSpots (fun vs H Q E h => ?_) (fun cdv A outer s H vs Q E hr h => ?_)
  · obtain ⟨c, q, ks, rfl, _⟩ := h
    rfl
  · obtain ⟨c, q, ks, rfl, ⟨dx, nm, ec, en⟩, ⟨rows, eq, pr⟩, k6, k2, k⟩ := h
    have nd := scAllSpots.nd
    refine ⟨_, pss_one (ps_ret (pe_tupleOf (by rfl) Cc.tuple (pe_lc2 (own := [("keeper", 2), ("row", 3), ("number", 4)]) (vs1 := [4]) (g := gTup K 2 (gCons (gName 2) (gCons (gName 3) gNil))) (tt := tYes)
        (wi1 := iRng1 (tCons (tCB (rLenS K) (tCons (tVar 3) tNil)) tNil)) (g1 := gName 4) (tt1 := tYes) (te := tTup (tCons (tVar 2) (tCons (tVar 4) tNil))) rfl nd
        (RZ.pi_zipA (by rfl) Cc.zip (pa_cons (pe_fld (pv 0) rfl) (pa_cons (pv 1) pa_nil))) (blkOk_by (N := ["circle", "pieces", "keeper", "row", "number"]) (sc := defScope sAllSpots) (by decide +kernel)) (by decide)
        (fun _ _ _ _ _ => pg_tup rfl (pgs_cons (pg_name (i := 2) nd rfl (.inl rfl)) (pgs_cons (pg_name (i := 3) nd rfl (.inl rfl)) pgs_nil))) (fun _ _ _ _ _ => pts_nil)
        (fun _ _ _ _ _ => pi_range1 (by rfl) T.range (pa_cons (pe_callB call_len_seq (by rfl) T.len PySem.boot_len (pa_cons (pv 3) pa_nil)) pa_nil))
        (fun _ _ _ _ _ => pg_name (i := 4) nd rfl (.inl rfl)) (fun _ _ _ _ _ => pts_nil) (fun _ _ _ _ _ => pe_tup (pa_cons (pv 2) (pa_cons (pv 4) pa_nil)))))), ?_⟩
    obtain ⟨zr, z1, z2, z3⟩ := paired_zip pr
    have rl : rows.length = ks.length := by rw [← z1, ← z2, List.length_map, List.length_map]
    refine ⟨_, rfl, c, C, dx, _, .ref nm, rfl, ec, CC.cls, CC.nm, rfl, _, rfl, nm, q, _, _, rfl, .inr ⟨en.sq, SqT.of eq, fun D nD => ?_⟩⟩
    refine in_it (walk_zipT (n := ks.length) (by rw [List.length_map, List.length_map, rl, Nat.min_self])) (fun i H' => ∃ ts, H' D = some (.lst ts) ∧ Paired (RelS H') ts (spotsOf (ks.take i)) ∧ ts.length ≤ 2 * i ∧ Same H H') ⟨[], upd_same, .nil, by simp, same_new nD⟩
      (fun i H' _ ⟨_, _, _, _, s'⟩ => ⟨(en.same s').sq, SqT.of (s' _ _ eq)⟩) ?_ ?_
    · rintro i x H2 H3 hi ⟨ts, eD, pt, tl, s2⟩ ⟨t, a1, a2, rfl, nt, rfl, e1, e2⟩
      obtain ⟨kq, hk⟩ : ∃ kq, ks[i]? = some kq := ⟨_, List.getElem?_eq_getElem hi⟩
      obtain rfl : V.str kq.1 = a1 := by
        have e1 : (List.map V.str (ks.map (·.1)))[i]? = some a1 := e1
        rw [List.getElem?_map, List.getElem?_map, hk] at e1
        exact Option.some.inj e1
      obtain ⟨r, us, rfl, er, ep⟩ : ∃ r us, a2 = V.ref r ∧ H r = some (.tup us) ∧ Pieces H us kq.2 := by
        obtain ⟨y, hy⟩ : ∃ y, zr[i]? = some y := ⟨_, List.getElem?_eq_getElem (by rw [← z2, List.length_map] at hi; exact hi)⟩
        have y1 : y.1 = a2 := by
          have e2 : rows[i]? = some a2 := e2
          rw [← z1, List.getElem?_map, hy] at e2
          exact Option.some.inj e2
        have y2 : y.2 = kq := by
          rw [← z2, List.getElem?_map, hy] at hk
          exact Option.some.inj hk
        obtain ⟨r, us, h1, h2, h3⟩ := z3 y (List.mem_of_getElem? hy)
        rw [y1] at h1
        rw [y2] at h3
        exact ⟨r, us, h1, h2, h3⟩
      have ul : us.length = kq.2.length := ep.length
      have km := List.mem_of_getElem? hk
      have kl := k2 kq km
      have s3 : Same H2 (upd H2 t (.tup [.str kq.1, .ref r])) := same_new nt
      have k3 : Keep H2 (upd H2 t (.tup [.str kq.1, .ref r])) := .of s3
      refine ⟨t, _, rfl, SqT.of upd_same, rfl, _, _, rfl, _, _, rfl, rfl, rfl, _, rfl, r, us, rfl, .inr (SqT.of (s3 _ _ (s2 _ _ er))), _, rfl, by omega, by omega, ?_⟩
      refine in_it (walk_range (n := ((us.length : Nat) : Int).toNat)) (fun j H' => ∃ ts, H' D = some (.lst ts) ∧ Paired (RelS H') ts (spotsOf (ks.take i) ++ (List.range j).map fun m => (kq.1, m)) ∧ ts.length ≤ 2 * i + j ∧ Same H H')
        ⟨ts, s3 _ _ eD, by rw [List.range_zero, List.map_nil, List.append_nil]; exact Paired.mapP pt fun v s r => RelS.keep _ _ _ _ k3 r, by omega, s2.trans s3⟩ (fun _ _ _ _ => trivial) ?_ ?_
      · rintro j x H4 H4' hj ⟨ts, eD, pt, tl, s4⟩ ⟨rfl, rfl⟩
        refine ⟨rfl, _, rfl, _, rfl, few_ok rfl, fun p np => ?_⟩
        have eD2 := (same_new (o := .tup [.str kq.1, .int (0 + (j : Nat))]) np) _ _ eD
        refine ⟨ts, eD2, by rw [sizeLine_eq]; omega, ts ++ [.ref p], upd_same, ?_, by rw [List.length_append]; show ts.length + 1 ≤ _; omega, fun b o e => ?_⟩
        · have kp : Keep H4' (upd (upd H4' p (.tup [.str kq.1, .int (0 + (j : Nat))])) D (.lst (ts ++ [.ref p]))) := (Keep.of (same_new np)).trans (.upd eD2)
          rw [List.range_succ, List.map_append, ← List.append_assoc]
          refine Paired.add (Paired.mapP pt fun v s r => RelS.keep _ _ _ _ kp r) ⟨p, rfl, ?_⟩
          have pD : p ≠ D := fun z => by rw [z, eD] at np; cases np
          rw [upd_ne pD, upd_same]
          show some (HO.tup [V.str kq.1, V.int (0 + (j : Int))]) = _
          rw [Int.zero_add]
        · rw [upd_ne (ne_of_none e nD)]
          exact (same_new np) _ _ (s4 _ _ e)
      · rintro H4 ⟨ts, eD, pt, tl, s4⟩
        have un : ((us.length : Nat) : Int).toNat = kq.2.length := by omega
        rw [un] at pt tl
        refine ⟨ts, eD, ?_, by omega, s4⟩
        have : spotsOf (ks.take (i + 1)) = spotsOf (ks.take i) ++ (List.range kq.2.length).map fun m => (kq.1, m) := by
          unfold spotsOf
          rw [List.take_add_one, hk, List.flatMap_append]
          simp
        rw [this]
        exact pt
    · rintro H2 ⟨ts, eD, pt, tl, s2⟩
      rw [List.take_length] at pt
      refine .inl ⟨D, _, rfl, SqL.of eD, fun p np => k p ts _ (s2.trans (same_new np)) upd_same (Paired.mapP pt fun v s r => RelS.keep _ _ _ _ (.of (same_new np)) r)⟩
end
end K6
set_option Elab.async false
set_option linter.all false
set_option maxHeartbeats 4000000
/-! Part F: vectors over two values; spans and what is orthogonal to them. -/
namespace Lk
abbrev Vec := List Bool
def vx : Vec → Vec → Vec
  | a :: as, b :: bs => xor a b :: vx as bs
  | _, _ => []
def dot : Vec → Vec → Bool
  | a :: as, b :: bs => xor (a && b) (dot as bs)
  | _, _ => false
def zv (n : Nat) : Vec := List.replicate n false
theorem vx_len : ∀ {a b : Vec} {n : Nat}, a.length = n → b.length = n → (vx a b).length = n
  | [], [], _, h, _ => h
  | _ :: as, _ :: bs, 0, h, _ => by simp at h
  | _ :: as, _ :: bs, n + 1, h, g => by
    show (vx as bs).length + 1 = n + 1
    rw [vx_len (Nat.succ.inj h) (Nat.succ.inj g)]
  | [], _ :: _, 0, _, g => by simp at g
  | [], _ :: _, _ + 1, h, _ => by simp at h
  | _ :: _, [], 0, h, _ => by simp at h
  | _ :: _, [], _ + 1, _, g => by simp at g
theorem vx_comm : ∀ a b : Vec, vx a b = vx b a
  | [], [] => rfl
  | [], _ :: _ => rfl
  | _ :: _, [] => rfl
  | a :: as, b :: bs => by
    show xor a b :: vx as bs = xor b a :: vx bs as
    rw [vx_comm as bs, Bool.xor_comm]
theorem vx_assoc : ∀ {a b c : Vec} {n : Nat}, a.length = n → b.length = n → c.length = n → vx (vx a b) c = vx a (vx b c)
  | [], [], [], _, _, _, _ => rfl
  | a :: as, b :: bs, c :: cs, 0, h, _, _ => by simp at h
  | a :: as, b :: bs, c :: cs, n + 1, h, g, k => by
    show xor (xor a b) c :: vx (vx as bs) cs = xor a (xor b c) :: vx as (vx bs cs)
    rw [vx_assoc (Nat.succ.inj h) (Nat.succ.inj g) (Nat.succ.inj k), Bool.xor_assoc]
  | [], [], _ :: _, _, h, _, k => by rw [← h] at k; simp at k
  | [], _ :: _, _, _, h, g, _ => by rw [← h] at g; simp at g
  | _ :: _, [], _, _, h, g, _ => by rw [← g] at h; simp at h
  | _ :: _, _ :: _, [], _, h, _, k => by rw [← k] at h; simp at h
theorem vx_self : ∀ a : Vec, vx a a = zv a.length
  | [] => rfl
  | a :: as => by
    show xor a a :: vx as as = false :: zv as.length
    rw [vx_self as, Bool.xor_self]
theorem vx_zero : ∀ {a : Vec} {n : Nat}, a.length = n → vx a (zv n) = a
  | [], 0, _ => rfl
  | [], _ + 1, h => by simp at h
  | _ :: _, 0, h => by simp at h
  | a :: as, n + 1, h => by
    show xor a false :: vx as (zv n) = a :: as
    rw [vx_zero (Nat.succ.inj h), Bool.xor_false]
theorem zv_len (n : Nat) : (zv n).length = n := List.length_replicate ..
/-- adding the same twice -/
theorem vx_back {a b : Vec} {n : Nat} (ha : a.length = n) (hb : b.length = n) : vx (vx a b) b = a := by
  rw [vx_assoc ha hb hb, vx_self, hb, vx_zero ha]
theorem dot_vx : ∀ {a b r : Vec}, a.length = b.length → dot (vx a b) r = xor (dot a r) (dot b r)
  | [], [], _, _ => by simp [vx, dot]
  | a :: as, b :: bs, [], _ => by simp [vx, dot]
  | a :: as, b :: bs, r :: rs, h => by
    show xor (xor a b && r) (dot (vx as bs) rs) = xor (xor (a && r) (dot as rs)) (xor (b && r) (dot bs rs))
    rw [dot_vx (Nat.succ.inj h)]
    cases a <;> cases b <;> cases r <;> cases dot as rs <;> cases dot bs rs <;> rfl
theorem dot_comm : ∀ a b : Vec, dot a b = dot b a
  | [], [] => rfl
  | [], _ :: _ => rfl
  | _ :: _, [] => rfl
  | a :: as, b :: bs => by
    show xor (a && b) (dot as bs) = xor (b && a) (dot bs as)
    rw [dot_comm as bs, Bool.and_comm]
theorem dot_zero : ∀ (n : Nat) (r : Vec), dot (zv n) r = false
  | 0, [] => rfl
  | 0, _ :: _ => rfl
  | _ + 1, [] => rfl
  | n + 1, r :: rs => by
    show xor (false && r) (dot (zv n) rs) = false
    rw [dot_zero n rs]
    rfl
theorem dot_zero' (n : Nat) (r : Vec) : dot r (zv n) = false := by rw [dot_comm, dot_zero]
/-- what is not in a space can be told from it -/
theorem dual : ∀ (n : Nat) (S : Vec → Prop), S (zv n) → (∀ a b, S a → S b → S (vx a b)) → (∀ a, S a → a.length = n) → ∀ c : Vec, c.length = n → ¬ S c → ∃ r : Vec, r.length = n ∧ (∀ a, S a → dot a r = false) ∧ dot c r = true
  | 0, S, h0, _, _, c, hc, nc => by
    have : c = [] := List.eq_nil_of_length_eq_zero hc
    exact absurd (by rw [this]; exact h0) nc
  | n + 1, S, h0, hx, hl, c, hc, nc => by
    match c, hc, nc with
    | c0 :: c', hc, nc =>
    have hc' : c'.length = n := Nat.succ.inj hc
    have S0 : (fun a => S (false :: a)) (zv n) := h0
    have Sx : ∀ a b, (fun a => S (false :: a)) a → (fun a => S (false :: a)) b → (fun a => S (false :: a)) (vx a b) := fun a b ha hb => hx _ _ ha hb
    have Sl : ∀ a, (fun a => S (false :: a)) a → a.length = n := fun a ha => Nat.succ.inj (hl _ ha)
    by_cases hT : ∃ t, S (true :: t)
    · obtain ⟨t, ht⟩ := hT
      have tl : t.length = n := Nat.succ.inj (hl _ ht)
      have key : ∃ d : Vec, d.length = n ∧ ¬ S (false :: d) ∧ (∀ r', dot d r' = true → xor (c0 && dot t r') (dot c' r') = true) := by
        cases c0 with
        | false => exact ⟨c', hc', nc, fun r' h => by simpa using h⟩
        | true =>
          refine ⟨vx c' t, vx_len hc' tl, fun h => nc ?_, fun r' h => ?_⟩
          · have := hx _ _ h ht
            have e : vx (false :: vx c' t) (true :: t) = true :: c' := by
              show xor false true :: vx (vx c' t) t = _
              rw [vx_back hc' tl]
              rfl
            rwa [e] at this
          · rw [dot_vx (by rw [hc', tl])] at h
            revert h
            cases dot t r' <;> cases dot c' r' <;> simp
      obtain ⟨d, dl, dn, dk⟩ := key
      obtain ⟨r', rl, r0, r1⟩ := dual n _ S0 Sx Sl d dl dn
      refine ⟨dot t r' :: r', by simp [rl], fun a ha => ?_, ?_⟩
      · match a, ha with
        | [], ha => rfl
        | false :: a', ha =>
          show xor (false && dot t r') (dot a' r') = false
          rw [r0 a' ha]
          rfl
        | true :: a', ha =>
          have al : a'.length = n := Nat.succ.inj (hl _ ha)
          have h2 := r0 (vx a' t) (by
            have := hx _ _ ha ht
            exact this)
          rw [dot_vx (by rw [al, tl])] at h2
          show xor (true && dot t r') (dot a' r') = false
          revert h2
          cases dot t r' <;> cases dot a' r' <;> simp
      · exact dk r' r1
    · have no : ∀ a', ¬ S (true :: a') := fun a' h => hT ⟨a', h⟩
      cases c0 with
      | true =>
        refine ⟨true :: zv n, by simp [zv_len], fun a ha => ?_, ?_⟩
        · match a, ha with
          | [], ha => rfl
          | false :: a', ha =>
            show xor (false && true) (dot a' (zv n)) = false
            rw [dot_zero']
            rfl
          | true :: a', ha => exact absurd ha (no a')
        · show xor (true && true) (dot c' (zv n)) = true
          rw [dot_zero']
          rfl
      | false =>
        obtain ⟨r', rl, r0, r1⟩ := dual n _ S0 Sx Sl c' hc' nc
        refine ⟨false :: r', by simp [rl], fun a ha => ?_, ?_⟩
        · match a, ha with
          | [], ha => rfl
          | false :: a', ha =>
            show xor (false && false) (dot a' r') = false
            rw [r0 a' ha]
            rfl
          | true :: a', ha => exact absurd ha (no a')
        · show xor (false && false) (dot c' r') = true
          rw [r1]
          rfl
/-! ### all vectors -/
def allV : Nat → List Vec
  | 0 => [[]]
  | n + 1 => (allV n).map (false :: ·) ++ (allV n).map (true :: ·)
theorem allV_len : ∀ n, (allV n).length = 2 ^ n
  | 0 => rfl
  | n + 1 => by
    show ((allV n).map (false :: ·) ++ (allV n).map (true :: ·)).length = _
    rw [List.length_append, List.length_map, List.length_map, allV_len n, Nat.pow_succ]
    omega
theorem mem_allV : ∀ {n : Nat} {v : Vec}, v ∈ allV n ↔ v.length = n
  | 0, v => by simp [allV]
  | n + 1, [] => by simp [allV]
  | n + 1, b :: v => by
    have ih := mem_allV (n := n) (v := v)
    cases b <;> simp [allV, ih]
theorem nodup_allV : ∀ n, (allV n).Nodup
  | 0 => by simp [allV]
  | n + 1 => by
    have ih := nodup_allV n
    show ((allV n).map (false :: ·) ++ (allV n).map (true :: ·)).Nodup
    rw [List.nodup_append]
    refine ⟨?_, ?_, ?_⟩
    · rw [List.nodup_iff_pairwise_ne, List.pairwise_map]
      exact (List.nodup_iff_pairwise_ne.mp ih).imp fun h e => h (List.cons.inj e).2
    · rw [List.nodup_iff_pairwise_ne, List.pairwise_map]
      exact (List.nodup_iff_pairwise_ne.mp ih).imp fun h e => h (List.cons.inj e).2
    · intro a ha b hb e
      obtain ⟨x, _, rfl⟩ := List.mem_map.mp ha
      obtain ⟨y, _, rfl⟩ := List.mem_map.mp hb
      exact Bool.noConfusion (List.cons.inj e).1
theorem shift_perm {n : Nat} {r : Vec} (hr : r.length = n) : ((allV n).map fun v => vx v r).Perm (allV n) := by
  have nd : ((allV n).map fun v => vx v r).Nodup := by
    rw [List.nodup_iff_pairwise_ne, List.pairwise_map]
    have h := List.nodup_iff_pairwise_ne.mp (nodup_allV n)
    refine (List.Pairwise.and_mem.mp h).imp ?_
    rintro a b ⟨ha, hb, ne⟩ e
    refine ne ?_
    have := congrArg (fun v => vx v r) e
    rwa [vx_back (mem_allV.mp ha) hr, vx_back (mem_allV.mp hb) hr] at this
  refine (List.perm_ext_iff_of_nodup nd (nodup_allV n)).mpr fun a => ?_
  rw [List.mem_map]
  constructor
  · rintro ⟨b, hb, rfl⟩
    exact mem_allV.mpr (vx_len (mem_allV.mp hb) hr)
  · intro ha
    have al := mem_allV.mp ha
    exact ⟨vx a r, mem_allV.mpr (vx_len al hr), vx_back al hr⟩
theorem count_shift {n : Nat} {r : Vec} (hr : r.length = n) (P : Vec → Bool) : ((allV n).filter fun v => P (vx v r)).length = ((allV n).filter P).length := by
  have := ((shift_perm hr).filter P).length_eq
  rw [List.filter_map, List.length_map] at this
  exact this
end Lk
set_option Elab.async false
set_option linter.all false
set_option maxHeartbeats 4000000
/-! Part F2: the table of all sums of rows. -/
namespace Lk
def sumV (n : Nat) (vs : List Vec) : Vec := vs.foldl vx (zv n)
theorem sumV_snoc (n : Nat) (vs : List Vec) (v : Vec) : sumV n (vs ++ [v]) = vx (sumV n vs) v := by
  unfold sumV
  rw [List.foldl_append]
  rfl
abbrev RowV (σ : Type) := σ × Vec
abbrev Tab (σ : Type) := List (Vec × List (RowV σ))
def stepT {σ : Type} (tb : Tab σ) (r : RowV σ) : Tab σ := if r.2 ∈ tb.map (·.1) then tb else tb ++ tb.map fun e => (vx e.1 r.2, e.2 ++ [r])
def tableT {σ : Type} (n : Nat) (rows : List (RowV σ)) : Tab σ := rows.foldl stepT [(zv n, [])]
def kerL {σ : Type} (n : Nat) (rows : List (RowV σ)) : List Vec := (allV n).filter fun v => rows.all fun r => !dot r.2 v
structure TbOk {σ : Type} (n : Nat) (rows : List (RowV σ)) (tb : Tab σ) : Prop where
  len : ∀ e ∈ tb, e.1.length = n
  nd : (tb.map (·.1)).Nodup
  zero : zv n ∈ tb.map (·.1)
  closed : ∀ a b, a ∈ tb.map (·.1) → b ∈ tb.map (·.1) → vx a b ∈ tb.map (·.1)
  rows_in : ∀ r ∈ rows, r.2 ∈ tb.map (·.1)
  sums : ∀ e ∈ tb, e.2.Sublist rows ∧ e.1 = sumV n (e.2.map (·.2))
  orth : ∀ v, (∀ r ∈ rows, dot r.2 v = false) → ∀ a ∈ tb.map (·.1), dot a v = false
  rank : tb.length * (kerL n rows).length = 2 ^ n
theorem filter_split {α : Type} (P Q : α → Bool) : ∀ xs : List α, (xs.filter P).length = (xs.filter fun x => P x && Q x).length + (xs.filter fun x => P x && !Q x).length
  | [] => rfl
  | x :: xs => by
    have ih := filter_split P Q xs
    cases hp : P x <;> cases hq : Q x <;> simp [List.filter_cons, hp, hq, ih] <;> omega
theorem dot_vx_r {a v r : Vec} (h : v.length = r.length) : dot a (vx v r) = xor (dot a v) (dot a r) := by
  rw [dot_comm a (vx v r), dot_vx h, dot_comm v a, dot_comm r a]
section
variable {σ : Type}
theorem tb_nil (n : Nat) : TbOk (σ := σ) n [] [(zv n, [])] := by
  refine ⟨fun e he => ?_, by simp, by simp, fun a b ha hb => ?_, by simp, fun e he => ?_, fun v _ a ha => ?_, ?_⟩
  · rw [List.mem_singleton.mp he]
    exact zv_len n
  · simp only [List.map_cons, List.map_nil, List.mem_singleton] at ha hb ⊢
    rw [ha, hb]
    exact vx_zero (zv_len n)
  · rw [List.mem_singleton.mp he]
    exact ⟨List.Sublist.refl _, rfl⟩
  · simp only [List.map_cons, List.map_nil, List.mem_singleton] at ha
    rw [ha]
    exact dot_zero n v
  · have : kerL (σ := σ) n [] = allV n := by
      unfold kerL
      simp
    rw [this, allV_len]
    simp
theorem tb_step {n : Nat} {rows : List (RowV σ)} {tb : Tab σ} (h : TbOk n rows tb) {r : RowV σ} (hr : r.2.length = n) : TbOk n (rows ++ [r]) (stepT tb r) := by
  have kl : ∀ a ∈ tb.map (·.1), a.length = n := fun a ha => by
    obtain ⟨e, he, rfl⟩ := List.mem_map.mp ha
    exact h.len e he
  unfold stepT
  by_cases hc : r.2 ∈ tb.map (·.1)
  · rw [if_pos hc]
    refine ⟨h.len, h.nd, h.zero, h.closed, fun q hq => ?_, fun e he => ?_, fun v hv => ?_, ?_⟩
    · rcases List.mem_append.mp hq with hq | hq
      · exact h.rows_in q hq
      · rw [List.mem_singleton.mp hq]
        exact hc
    · exact ⟨List.sublist_append_of_sublist_left (h.sums e he).1, (h.sums e he).2⟩
    · exact h.orth v fun q hq => hv q (List.mem_append_left _ hq)
    · have : kerL n (rows ++ [r]) = kerL n rows := by
        unfold kerL
        refine List.filter_congr fun v _ => ?_
        rw [List.all_append]
        cases e : rows.all fun r => !dot r.2 v with
        | false => rfl
        | true =>
          have := h.orth v (fun q hq => by
            have := List.all_eq_true.mp e q hq
            simpa using this) _ hc
          simp [this]
      rw [this]
      exact h.rank
  · rw [if_neg hc]
    have keys : (tb ++ tb.map fun e => (vx e.1 r.2, e.2 ++ [r])).map (·.1) = tb.map (·.1) ++ (tb.map (·.1)).map fun a => vx a r.2 := by
      rw [List.map_append, List.map_map, List.map_map]
      rfl
    have shift : ∀ a b, a ∈ tb.map (·.1) → b ∈ tb.map (·.1) → vx a r.2 = b → False := fun a b ha hb e => by
      refine hc ?_
      have e2 : vx b a = r.2 := by
        rw [← e, vx_comm (vx a r.2) a, ← vx_assoc (kl a ha) (kl a ha) hr, vx_self, kl a ha, vx_comm, vx_zero hr]
      rw [← e2]
      exact h.closed _ _ hb ha
    refine ⟨fun e he => ?_, ?_, ?_, ?_, ?_, ?_, ?_, ?_⟩
    · rcases List.mem_append.mp he with he | he
      · exact h.len e he
      · obtain ⟨q, hq, rfl⟩ := List.mem_map.mp he
        exact vx_len (h.len q hq) hr
    · rw [keys, List.nodup_append]
      refine ⟨h.nd, ?_, fun a ha b hb e => ?_⟩
      · rw [List.nodup_iff_pairwise_ne, List.pairwise_map]
        refine (List.Pairwise.and_mem.mp (List.nodup_iff_pairwise_ne.mp h.nd)).imp ?_
        rintro a b ⟨ha, hb, ne⟩ e
        refine ne ?_
        have := congrArg (fun v => vx v r.2) e
        rwa [vx_back (kl a ha) hr, vx_back (kl b hb) hr] at this
      · obtain ⟨x, hx, rfl⟩ := List.mem_map.mp hb
        exact shift x a hx ha e.symm
    · rw [keys]
      exact List.mem_append_left _ h.zero
    · intro a b ha hb
      rw [keys] at ha hb ⊢
      rcases List.mem_append.mp ha with ha | ha
      · rcases List.mem_append.mp hb with hb | hb
        · exact List.mem_append_left _ (h.closed _ _ ha hb)
        · obtain ⟨y, hy, rfl⟩ := List.mem_map.mp hb
          refine List.mem_append_right _ (List.mem_map.mpr ⟨vx a y, h.closed _ _ ha hy, ?_⟩)
          rw [vx_assoc (kl a ha) (kl y hy) hr]
      · obtain ⟨x, hx, rfl⟩ := List.mem_map.mp ha
        rcases List.mem_append.mp hb with hb | hb
        · refine List.mem_append_right _ (List.mem_map.mpr ⟨vx x b, h.closed _ _ hx hb, ?_⟩)
          rw [vx_assoc (kl x hx) (kl b hb) hr, vx_assoc (kl x hx) hr (kl b hb), vx_comm r.2 b]
        · obtain ⟨y, hy, rfl⟩ := List.mem_map.mp hb
          refine List.mem_append_left _ ?_
          have : vx (vx x r.2) (vx y r.2) = vx x y := by
            rw [vx_assoc (kl x hx) hr (vx_len (kl y hy) hr), vx_comm r.2 (vx y r.2), vx_back (kl y hy) hr]
          rw [this]
          exact h.closed _ _ hx hy
    · intro q hq
      rw [keys]
      rcases List.mem_append.mp hq with hq | hq
      · exact List.mem_append_left _ (h.rows_in q hq)
      · rw [List.mem_singleton.mp hq]
        refine List.mem_append_right _ (List.mem_map.mpr ⟨zv n, h.zero, ?_⟩)
        rw [vx_comm, vx_zero hr]
    · intro e he
      rcases List.mem_append.mp he with he | he
      · exact ⟨List.sublist_append_of_sublist_left (h.sums e he).1, (h.sums e he).2⟩
      · obtain ⟨q, hq, rfl⟩ := List.mem_map.mp he
        refine ⟨(h.sums q hq).1.append (List.Sublist.refl _), ?_⟩
        show vx q.1 r.2 = sumV n ((q.2 ++ [r]).map (·.2))
        rw [List.map_append, (h.sums q hq).2]
        exact (sumV_snoc n _ _).symm
    · intro v hv a ha
      have hv1 := h.orth v fun q hq => hv q (List.mem_append_left _ hq)
      rw [keys] at ha
      rcases List.mem_append.mp ha with ha | ha
      · exact hv1 a ha
      · obtain ⟨x, hx, rfl⟩ := List.mem_map.mp ha
        rw [dot_vx (by rw [kl x hx, hr]), hv1 x hx, hv r (List.mem_append_right _ (List.mem_singleton.mpr rfl))]
        rfl
    · obtain ⟨r0, rl, ro, r1⟩ := dual n (fun a => a ∈ tb.map (·.1)) h.zero (fun a b ha hb => h.closed a b ha hb) kl r.2 hr hc
      have rowK : ∀ v : Vec, v.length = n → (rows.all fun q => !dot q.2 (vx v r0)) = rows.all fun q => !dot q.2 v := fun v hv => by
        have : ∀ q ∈ rows, (!dot q.2 (vx v r0)) = !dot q.2 v := fun q hq => by
          rw [dot_vx_r (by rw [hv, rl]), ro _ (h.rows_in q hq), Bool.xor_false]
        rw [Bool.eq_iff_iff, List.all_eq_true, List.all_eq_true]
        exact ⟨fun g q hq => by rw [← this q hq]; exact g q hq, fun g q hq => by rw [this q hq]; exact g q hq⟩
      have half : (kerL n (rows ++ [r])).length = ((allV n).filter fun v => (rows.all fun q => !dot q.2 v) && dot r.2 v).length := by
        have e1 : kerL n (rows ++ [r]) = (allV n).filter fun v => (rows.all fun q => !dot q.2 v) && !dot r.2 v := by
          unfold kerL
          refine List.filter_congr fun v _ => ?_
          rw [List.all_append]
          simp
        rw [e1, ← count_shift rl]
        congr 1
        refine List.filter_congr fun v hv => ?_
        have vl := mem_allV.mp hv
        rw [rowK v vl, dot_vx_r (by rw [vl, rl]), r1]
        cases dot r.2 v <;> simp
      have split := filter_split (fun v => rows.all fun q => !dot q.2 v) (fun v => dot r.2 v) (allV n)
      have e2 : ((allV n).filter fun v => (rows.all fun q => !dot q.2 v) && !dot r.2 v).length = (kerL n (rows ++ [r])).length := by
        unfold kerL
        congr 1
        refine List.filter_congr fun v _ => ?_
        rw [List.all_append]
        simp
      rw [e2, ← half] at split
      have hk : (kerL n rows).length = (kerL n (rows ++ [r])).length + (kerL n (rows ++ [r])).length := split
      have hrk := h.rank
      rw [hk] at hrk
      rw [List.length_append, List.length_map, ← hrk, Nat.add_mul, Nat.mul_add]
theorem tb_all {n : Nat} : ∀ (more rows : List (RowV σ)) (tb : Tab σ), TbOk n rows tb → (∀ r ∈ more, r.2.length = n) → TbOk n (rows ++ more) (more.foldl stepT tb)
  | [], rows, tb, h, _ => by
    rw [List.append_nil]
    exact h
  | r :: more, rows, tb, h, hl => by
    have h1 := tb_step h (hl r List.mem_cons_self)
    have := tb_all more (rows ++ [r]) _ h1 fun q hq => hl q (List.mem_cons_of_mem _ hq)
    rw [List.append_assoc] at this
    exact this
theorem table_ok {n : Nat} {rows : List (RowV σ)} (hl : ∀ r ∈ rows, r.2.length = n) : TbOk n rows (tableT n rows) := by
  have := tb_all rows [] _ (tb_nil n) hl
  exact this
/-! ### what fits -/
def fitL (n : Nat) (rows : List (RowV σ × Bool)) : List Vec := (allV n).filter fun v => rows.all fun r => dot r.1.2 v == r.2
/-- the value as one place more -/
def augR (r : RowV σ × Bool) : RowV σ := (r.1.1, r.1.2 ++ [r.2])
theorem dot_snoc : ∀ {a v : Vec} {b c : Bool}, a.length = v.length → dot (a ++ [b]) (v ++ [c]) = xor (dot a v) (b && c)
  | [], [], b, c, _ => by simp [dot]
  | x :: xs, y :: ys, b, c, h => by
    show xor (x && y) (dot (xs ++ [b]) (ys ++ [c])) = xor (xor (x && y) (dot xs ys)) (b && c)
    rw [dot_snoc (Nat.succ.inj h), Bool.xor_assoc]
theorem fit_ker {n : Nat} {rows : List (RowV σ × Bool)} (h : fitL n rows ≠ []) : (fitL n rows).length = (kerL n (rows.map (·.1))).length := by
  obtain ⟨r0, hr0⟩ : ∃ r0, r0 ∈ fitL n rows := by
    cases e : fitL n rows with
    | nil => exact absurd e h
    | cons a l => exact ⟨a, by simp⟩
  obtain ⟨m0, f0⟩ := List.mem_filter.mp hr0
  have rl := mem_allV.mp m0
  unfold fitL kerL
  rw [← count_shift rl]
  congr 1
  refine List.filter_congr fun v hv => ?_
  have vl := mem_allV.mp hv
  rw [List.all_map, Bool.eq_iff_iff, List.all_eq_true, List.all_eq_true]
  have one : ∀ q ∈ rows, (dot q.1.2 (vx v r0) == q.2) = !dot q.1.2 v := fun q hq => by
    have := List.all_eq_true.mp f0 q hq
    have e : dot q.1.2 r0 = q.2 := by simpa using this
    rw [dot_vx_r (by rw [vl, rl]), e]
    cases dot q.1.2 v <;> cases q.2 <;> rfl
  exact ⟨fun g q hq => by show (!dot q.1.2 v) = true; rw [← one q hq]; exact g q hq, fun g q hq => by rw [one q hq]; exact g q hq⟩
/-- if none fits, some sum of rows comes to nothing while its values come to one -/
theorem torn_in {n : Nat} {rows : List (RowV σ × Bool)} {tb : Tab σ} (hl : ∀ r ∈ rows, r.1.2.length = n) (h : TbOk (n + 1) (rows.map augR) tb) (no : fitL n rows = []) : zv n ++ [true] ∈ tb.map (·.1) := by
  refine Classical.byContradiction fun hc => ?_
  obtain ⟨r, rl, ro, r1⟩ := dual (n + 1) (fun a => a ∈ tb.map (·.1)) h.zero (fun a b ha hb => h.closed a b ha hb) (fun a ha => by
    obtain ⟨e, he, rfl⟩ := List.mem_map.mp ha
    exact h.len e he) (zv n ++ [true]) (by simp [zv_len]) hc
  obtain ⟨v, c, rfl⟩ : ∃ v c, r = v ++ [c] := by
    rcases List.eq_nil_or_concat r with e | ⟨v, c, e⟩
    · rw [e] at rl
      simp at rl
    · exact ⟨v, c, by rw [e, List.concat_eq_append]⟩
  have vl : v.length = n := by simpa using rl
  rw [dot_snoc (by rw [zv_len, vl]), dot_zero] at r1
  have hc1 : c = true := by simpa using r1
  have : v ∈ fitL n rows := by
    refine List.mem_filter.mpr ⟨mem_allV.mpr vl, List.all_eq_true.mpr fun q hq => ?_⟩
    have z := ro (augR q).2 (h.rows_in _ (List.mem_map.mpr ⟨q, hq, rfl⟩))
    rw [show (augR q).2 = q.1.2 ++ [q.2] from rfl, dot_snoc (by rw [hl q hq, vl]), hc1] at z
    revert z
    cases dot q.1.2 v <;> cases q.2 <;> simp
  rw [no] at this
  cases this
/-! ### units -/
def unitV : Nat → Nat → Vec
  | 0, _ => []
  | n + 1, 0 => true :: zv n
  | n + 1, i + 1 => false :: unitV n i
theorem unit_len : ∀ (n i : Nat), (unitV n i).length = n
  | 0, _ => rfl
  | n + 1, 0 => by simp [unitV, zv_len]
  | n + 1, i + 1 => by simp [unitV, unit_len n i]
theorem dot_unit : ∀ {n i : Nat} {v : Vec}, v.length = n → dot (unitV n i) v = (v[i]?).getD false
  | 0, _, [], _ => by simp [unitV, dot]
  | 0, _, _ :: _, h => by simp at h
  | n + 1, _, [], h => by simp at h
  | n + 1, 0, b :: v, _ => by
    show xor (true && b) (dot (zv n) v) = _
    rw [dot_zero]
    simp
  | n + 1, i + 1, b :: v, h => by
    show xor (false && b) (dot (unitV n i) v) = _
    rw [dot_unit (Nat.succ.inj h)]
    simp
theorem units_ker {n : Nat} {rows : List (RowV σ)} {tb : Tab σ} (h : TbOk n rows tb) (hu : ∀ i, i < n → unitV n i ∈ tb.map (·.1)) : (kerL n rows).length ≤ 1 := by
  have one : ∀ v ∈ kerL n rows, v = zv n := fun v hv => by
    obtain ⟨m, f⟩ := List.mem_filter.mp hv
    have vl := mem_allV.mp m
    have o := h.orth v fun r hr => by
      have := List.all_eq_true.mp f r hr
      simpa using this
    apply List.ext_getElem?
    intro i
    by_cases hi : i < n
    · have := o _ (hu i hi)
      rw [dot_unit vl, List.getElem?_eq_getElem (by omega)] at this
      rw [List.getElem?_eq_getElem (by omega), List.getElem?_eq_getElem (by rw [zv_len]; omega)]
      have e : v[i]'(by omega) = false := by simpa using this
      rw [e]
      simp [zv]
    · rw [List.getElem?_eq_none (by omega), List.getElem?_eq_none (by rw [zv_len]; omega)]
  have nd : (kerL n rows).Nodup := (nodup_allV n).sublist List.filter_sublist
  match e : kerL n rows, one, nd with
  | [], _, _ => exact Nat.zero_le _
  | [_], _, _ => exact Nat.le_refl _
  | a :: b :: l, one, nd => 
    have h1 := one a (by simp)
    have h2 := one b (by simp)
    rw [h1, h2] at nd
    simp at nd
/-- a place that is lost: a vector that is 1 there, on which all rows are 0 -/
theorem unit_lost {n : Nat} {rows : List (RowV σ)} {tb : Tab σ} (h : TbOk n rows tb) {i : Nat} (hu : unitV n i ∉ tb.map (·.1)) : ∃ v : Vec, v.length = n ∧ (v[i]?).getD false = true ∧ ∀ r ∈ rows, dot r.2 v = false := by
  obtain ⟨v, vl, vo, v1⟩ := dual n (fun a => a ∈ tb.map (·.1)) h.zero (fun a b ha hb => h.closed a b ha hb) (fun a ha => by
    obtain ⟨e, he, rfl⟩ := List.mem_map.mp ha
    exact h.len e he) (unitV n i) (unit_len n i) hu
  rw [dot_unit vl] at v1
  exact ⟨v, vl, v1, fun r hr => vo _ (h.rows_in r hr)⟩
end
end Lk
set_option Elab.async false
set_option linter.all false
set_option maxHeartbeats 4000000
/-! Part W: vectors as ints. -/
namespace Lk
open PySem
def bN (b : Bool) : Nat := if b then 1 else 0
def toN : Vec → Nat
  | [] => 0
  | b :: bs => bN b + 2 * toN bs
theorem toN_zero : ∀ n, toN (zv n) = 0
  | 0 => rfl
  | n + 1 => by
    show bN false + 2 * toN (zv n) = 0
    rw [toN_zero n]
    rfl
theorem toN_lt : ∀ v : Vec, toN v < 2 ^ v.length
  | [] => by decide
  | b :: bs => by
    have := toN_lt bs
    show bN b + 2 * toN bs < 2 ^ (bs.length + 1)
    rw [Nat.pow_succ]
    cases b <;> simp only [bN] <;> simp <;> omega
theorem toN_inj : ∀ {a b : Vec}, a.length = b.length → toN a = toN b → a = b
  | [], [], _, _ => rfl
  | a :: as, b :: bs, h, e => by
    have e : bN a + 2 * toN as = bN b + 2 * toN bs := e
    have : a = b ∧ toN as = toN bs := by
      cases a <;> cases b <;> simp only [bN] at e <;> simp at e ⊢ <;> omega
    rw [this.1, toN_inj (Nat.succ.inj h) this.2]
theorem nat_xor_cons (a b : Bool) (x y : Nat) : (bN a + 2 * x) ^^^ (bN b + 2 * y) = bN (xor a b) + 2 * (x ^^^ y) := by
  apply Nat.eq_of_testBit_eq
  intro i
  cases i with
  | zero =>
    rw [Nat.testBit_xor]
    cases a <;> cases b <;> simp [bN, Nat.testBit_zero] <;> omega
  | succ i =>
    rw [Nat.testBit_xor, Nat.testBit_succ, Nat.testBit_succ, Nat.testBit_succ]
    have h1 : ∀ (c : Bool) (z : Nat), (bN c + 2 * z) / 2 = z := fun c z => by cases c <;> simp only [bN] <;> simp <;> omega
    rw [h1, h1, h1, Nat.testBit_xor]
theorem toN_vx : ∀ {a b : Vec}, a.length = b.length → toN (vx a b) = toN a ^^^ toN b
  | [], [], _ => by simp [vx, toN]
  | a :: as, b :: bs, h => by
    show bN (xor a b) + 2 * toN (vx as bs) = (bN a + 2 * toN as) ^^^ (bN b + 2 * toN bs)
    rw [nat_xor_cons, toN_vx (Nat.succ.inj h)]
theorem toN_snoc : ∀ (v : Vec) (b : Bool), toN (v ++ [b]) = toN v + bN b * 2 ^ v.length
  | [], b => by simp [toN]
  | a :: as, b => by
    show bN a + 2 * toN (as ++ [b]) = bN a + 2 * toN as + bN b * 2 ^ (as.length + 1)
    rw [toN_snoc as b, Nat.pow_succ, Nat.mul_add, Nat.mul_left_comm, Nat.mul_comm 2 (2 ^ as.length)]
    omega
theorem toN_unit : ∀ {n i : Nat}, i < n → toN (unitV n i) = 2 ^ i
  | 0, _, h => by omega
  | n + 1, 0, _ => by
    show bN true + 2 * toN (zv n) = 1
    rw [toN_zero]
    rfl
  | n + 1, i + 1, h => by
    show bN false + 2 * toN (unitV n i) = 2 ^ (i + 1)
    rw [toN_unit (by omega), Nat.pow_succ]
    simp [bN]
    omega
theorem xor_codes {a b : Vec} (h : a.length = b.length) : Builtin.bitXor (toN a : Int) (toN b : Int) = (toN (vx a b) : Int) := by
  rw [Bits.bitXor_pp (by omega) (by omega), toN_vx h]
  rfl
/-! ### the code of a piece -/
def idxS : List Str → Str → Nat
  | [], _ => 0
  | y :: ys, b => if b = y then 0 else idxS ys b + 1
theorem idxS_at : ∀ {ps : List Str} {b : Str}, b ∈ ps → ps[idxS ps b]? = some b
  | y :: ys, b, h => by
    unfold idxS
    by_cases e : b = y
    · rw [if_pos e, e]
      rfl
    · rw [if_neg e]
      rcases List.mem_cons.mp h with h | h
      · exact absurd h e
      · rw [List.getElem?_cons_succ]
        exact idxS_at h
def vecP (ps p : List Str) : Vec := ps.map fun x => decide (x ∈ p)
theorem vecP_len (ps p : List Str) : (vecP ps p).length = ps.length := List.length_map ..
theorem sum_dbl : ∀ xs : List Int, (xs.map fun x => 2 * x).sum = 2 * xs.sum
  | [] => rfl
  | x :: xs => by
    rw [List.map_cons, List.sum_cons, List.sum_cons, sum_dbl xs, Int.mul_add]
theorem code_sum : ∀ {ps : List Str} (Q : Str → Bool), ps.Nodup → ((ps.filter Q).map fun b => ((2 ^ idxS ps b : Nat) : Int)).sum = (toN (ps.map Q) : Int)
  | [], _, _ => rfl
  | y :: ys, Q, nd => by
    have n2 := List.nodup_cons.mp nd
    have ih := code_sum (ps := ys) Q n2.2
    have e : ((ys.filter Q).map fun b => ((2 ^ idxS (y :: ys) b : Nat) : Int)) = (((ys.filter Q).map fun b => ((2 ^ idxS ys b : Nat) : Int)).map fun x => 2 * x) := by
      rw [List.map_map]
      refine List.map_congr_left fun b hb => ?_
      have : b ≠ y := fun q => n2.1 (q ▸ (List.mem_filter.mp hb).1)
      show ((2 ^ idxS (y :: ys) b : Nat) : Int) = 2 * ((2 ^ idxS ys b : Nat) : Int)
      have h : idxS (y :: ys) b = idxS ys b + 1 := if_neg this
      rw [h, Nat.pow_succ]
      omega
    have t : toN ((y :: ys).map Q) = bN (Q y) + 2 * toN (ys.map Q) := rfl
    cases hq : Q y with
    | true =>
      rw [List.filter_cons_of_pos hq, List.map_cons, List.sum_cons, e, sum_dbl, ih, t, hq]
      have : idxS (y :: ys) y = 0 := if_pos rfl
      rw [this]
      show (1 : Int) + 2 * (toN (ys.map Q) : Int) = ((bN true + 2 * toN (ys.map Q) : Nat) : Int)
      simp [bN]
    | false =>
      rw [List.filter_cons_of_neg (by simp [hq]), e, sum_dbl, ih, t, hq]
      simp [bN]
end Lk
set_option Elab.async false
set_option linter.all false
set_option maxRecDepth 100000
set_option maxHeartbeats 4000000
set_option pp.maxSteps 1200
set_option pp.deepTerms false
namespace K6
open PySem PySem.Spec PyProof.Rows L2 Lk
abbrev sPieceAt : Stmt := top 39
abbrev sPieceCode : Stmt := top 40
/-- what is asked of the class Shelf -/
structure ShC (K : PySem.W.Frag) (CS fI : Addr) : Prop where
  cls : Cls K CS
  text : NoAttr K CS "text"
  parts : NoAttr K CS "parts"
  circle : NoAttr K CS "circle"
  pieces : NoAttr K CS "pieces"
  spots : NoAttr K CS "spots"
  codes : NoAttr K CS "codes"
  mkr : Mk K CS fI
/-- what the attributes of a shelf tell, once they are there -/
structure ShF (H : Hp) (C : Addr) (L : Lore) (fs : List (Str × V)) : Prop where
  parts : ∃ pa, fs.lookup ("parts" : Str) = some (V.ref pa) ∧ TupX H pa (L.parts.map V.str)
  circle : ∃ c, fs.lookup ("circle" : Str) = some (V.ref c) ∧ CircAt H C c (L.kps.map (·.1))
  pieces : ∃ q, fs.lookup ("pieces" : Str) = some (V.ref q) ∧ PcsAt H q L.kps
theorem CircAt.same {H H' : Hp} {C c : Addr} {zs : List Str} (h : CircAt H C c zs) (s : Same H H') : CircAt H' C c zs := by
  obtain ⟨dx, nm, e, t⟩ := h
  exact ⟨dx, nm, s _ _ e, t.same s⟩
theorem PcsAt.same {H H' : Hp} {q : Addr} {ks : List KP} (h : PcsAt H q ks) (s : Same H H') : PcsAt H' q ks := by
  obtain ⟨rows, e, p⟩ := h
  exact ⟨rows, s _ _ e, Paired.mapP p fun v k ⟨r, ts, e1, e2, e3⟩ => ⟨r, ts, e1, s _ _ e2, e3.tups (.of s)⟩⟩
theorem ShF.same {H H' : Hp} {C : Addr} {L : Lore} {fs : List (Str × V)} (h : ShF H C L fs) (s : Same H H') : ShF H' C L fs := by
  obtain ⟨⟨pa, a1, a2⟩, ⟨c, b1, b2⟩, ⟨q, c1, c2⟩⟩ := h
  exact ⟨⟨pa, a1, a2.same s⟩, ⟨c, b1, b2.same s⟩, ⟨q, c1, c2.same s⟩⟩
def rTI (K : PySem.W.Frag) : V → List V → Hp → VK → Prop := fun x xs H Q => ∃ p, ∃ ys : List Str, ∃ z j, x = .ref p ∧ xs = [.str z] ∧ SqT K H p (ys.map V.str) ∧ ys[j]? = some z ∧ (∀ m, m < j → ys[m]? ≠ some z) ∧ Q (.int (j : Nat)) H
theorem first_at {zs : List Str} (nd : zs.Nodup) {z : Str} {j : Nat} (h : zs[j]? = some z) : ∀ m, m < j → zs[m]? ≠ some z := fun m hm e => by
  obtain ⟨h1, e1⟩ := List.getElem?_eq_some_iff.mp h
  obtain ⟨h2, e2⟩ := List.getElem?_eq_some_iff.mp e
  exact (List.pairwise_iff_getElem.mp nd) m j h2 h1 hm (e2.trans e1.symm)
theorem paired_get {α β : Type} {R : α → β → Prop} : ∀ {xs : List α} {ys : List β} {i : Nat} {y : β}, Paired R xs ys → ys[i]? = some y → ∃ x, xs[i]? = some x ∧ R x y
  | _, _, _, _, .nil, h => by simp at h
  | _, _, 0, y, .cons (a := a) r t, h => by
    simp at h
    subst h
    exact ⟨a, rfl, r⟩
  | _, _, i + 1, y, .cons r t, h => by
    obtain ⟨x, h1, h2⟩ := paired_get t (by simpa using h)
    exact ⟨x, by simpa using h1, h2⟩
theorem atN {xs : List V} {i : Nat} {v : V} (h : xs[i]? = some v) : atI xs (i : Int) = some v := atI_nat h
section
variable {P : Program} {w : World} {K : PySem.W.Frag} {mg : Str → Option Value} {base : Heap} {f : Addr} {fd : FuncData}
/-! ### piece_at -/
def spPieceAt (C CS : Addr) : Sp := fun vs H Q _ => ∃ (x t dx : Addr) (fs : List (Str × V)) (L : Lore) (j i : Nat) (kq : KP) (p : List Str), vs = [.ref x, .ref t] ∧ H x = some (.ins CS dx fs) ∧ ShF H C L fs ∧ LoreOk L ∧ H t = some (.tup [.str kq.1, .int (i : Int)]) ∧
  L.kps[j]? = some kq ∧ kq.2[i]? = some p ∧ ∀ u, H u = some (.tup (p.map V.str)) → Q (.ref u) H
theorem scPieceAt : FnScope ["shelf", "spot"] ["shelf", "spot"] (defScope sPieceAt) := ⟨rfl, rfl, rfl, by decide +kernel, rfl, by decide +kernel, by decide +kernel⟩
theorem ok_pieceAt {C CS fC fS : Addr} (F : Fun K "piece_at" "piece_at" sPieceAt f fd) (CC : CircC K C fC) (SC : ShC K CS fS) : FnOk P w K mg base CX0 1 f fd ["shelf", "spot"] (spPieceAt C CS) := by
  refine F.ok scPieceAt (fun vs H Q E h => ?_) (fun cdv A outer s H vs Q E hr h => ?_)
  · obtain ⟨x, t, dx, fs, L, j, i, kq, p, rfl, _⟩ := h
    rfl
  · obtain ⟨x, t, dx, fs, L, j, i, kq, p, rfl, hx, sf, ok, ht, hj, hi, k⟩ := h
    obtain ⟨c, lc, cdx, nm, ec, en⟩ := sf.circle
    obtain ⟨q, lq, rows, eq, pr⟩ := sf.pieces
    obtain ⟨v, hv, r, ts, rfl, er, ep⟩ := paired_get pr hj
    obtain ⟨v2, hv2, u, rfl, eu⟩ := paired_get ep hi
    refine ⟨_, pss_one (ps_ret (pe_ix ix_tup (pe_ix ix_tup (pe_fld (pv 0) rfl) (pe_bmX PySem.F.slot_tuple_index PySem.F.type_tuple_index mt_tup_index (pe_fld (pe_fld (pv 0) rfl) rfl) (pa_cons (pe_ix ix_tup (pv 1) pe_int (fun _ _ => rfl)) pa_nil)) (fun _ _ => rfl))
      (pe_ix ix_tup (pv 1) pe_int (fun _ _ => rfl)) (fun _ _ => rfl))), ?_⟩
    have kn : (L.kps.map (·.1))[j]? = some kq.1 := by rw [List.getElem?_map, hj]; rfl
    refine ⟨_, rfl, x, CS, dx, fs, .ref q, rfl, hx, SC.cls, SC.pieces, lq, ?_⟩
    refine ⟨_, rfl, x, CS, dx, fs, .ref c, rfl, hx, SC.cls, SC.circle, lc, c, C, cdx, _, .ref nm, rfl, ec, CC.cls, CC.nm, rfl, ⟨nm, _, rfl, en⟩, ?_⟩
    refine ⟨_, rfl, t, _, _, .str kq.1, rfl, rfl, SqT.of ht, at0 rfl, nm, L.kps.map (·.1), kq.1, j, rfl, rfl, en.sq, kn, first_at ok.kn kn, ?_⟩
    refine ⟨q, rows, _, .ref r, rfl, rfl, SqT.of eq, atN hv, ?_⟩
    refine ⟨_, rfl, t, _, _, .int (i : Int), rfl, rfl, SqT.of ht, at1 rfl, r, ts, _, .ref u, rfl, rfl, SqT.of er, atN hv2, k u eu⟩
/-! ### piece_code -/
def spPieceCode : Sp := fun vs H Q _ => ∃ (pa t : Addr) (ps p : List Str), vs = [.ref pa, .ref t] ∧ TupX H pa (ps.map V.str) ∧ H t = some (.tup (p.map V.str)) ∧ (∀ x ∈ p, x ∈ ps) ∧ ps.length ≤ 4 ∧ p.length ≤ 4 ∧ ps.Nodup ∧ p = ps.filter (fun x => decide (x ∈ p)) ∧ ∀ H', Same H H' → Q (.int ((toN (vecP ps p) : Nat) : Int)) H'
theorem scPieceCode : FnScope ["parts", "piece", "part"] ["parts", "piece"] (defScope sPieceCode) := ⟨rfl, rfl, rfl, by decide +kernel, rfl, by decide +kernel, by decide +kernel⟩
theorem ok_pieceCode (F : Fun K "piece_code" "piece_code" sPieceCode f fd) (Cc : Cn mg) : FnOk P w K mg base CX0 1 f fd ["parts", "piece"] spPieceCode := by
  refine F.ok scPieceCode (fun vs H Q E h => ?_) (fun cdv A outer s H vs Q E hr h => ?_)
  · obtain ⟨pa, t, ps, p, rfl, _⟩ := h
    rfl
  · obtain ⟨pa, t, ps, p, rfl, hpa, ht, sub, l4, p4, ndp, pf, k⟩ := h
    have nd := scPieceCode.nd
    refine ⟨_, pss_one (ps_ret (pe_callB (cr_sum rfl) (by rfl) Cc.sum boot_sum (pa_cons (pe_lc (own := [("part", 2)]) (g := gName 2) (tt := tYes) (te := tOp (rI CPow fun i j => .int (i * 2 ^ j.toNat)) (tC (.int 1)) (tBMX (rTI K) (tVar 0) (tCons (tVar 2) tNil))) rfl nd (pi_tup (pv 1)) (blkOk_by (N := ["parts", "piece", "part"]) (sc := defScope sPieceCode) (by decide +kernel))
        (fun _ _ _ _ _ => pg_name (i := 2) nd rfl (Or.inl rfl)) (fun _ _ _ _ _ => pts_nil) (fun _ _ _ _ _ => pe_op op_shl pe_int (pe_bmX PySem.F.slot_tuple_index PySem.F.type_tuple_index mt_tup_index (pv 0) (pa_cons (pv 2) pa_nil)))) pa_nil))), ?_⟩
    refine ⟨_, rfl, t, rfl, ⟨_, SqT.of ht⟩, lc_rel (Q := fun x H1 => rSum K [x] H1 Q) walk_tup p V.str (fun b => b) (fun _ v b => v = .int ((2 ^ idxS ps b : Nat) : Int)) (fun _ _ _ _ _ h => h) rfl (by omega) (fun H s => sqT_same s (SqT.of ht)) ?_ ?_⟩
    · intro i b H1 R hb s1 kk
      have mb := sub b (List.mem_of_getElem? hb)
      have hj := idxS_at mb
      have jl := (List.getElem?_eq_some_iff.mp hj).1
      refine ⟨rfl, _, rfl, ⟨pa, _, rfl, hpa.same s1⟩, _, rfl, pa, ps, b, idxS ps b, rfl, rfl, (hpa.same s1).sq, hj, first_at ndp hj, ?_⟩
      refine ⟨_, _, rfl, rfl, ⟨by omega, by omega, by decide⟩, kk _ _ (Same.refl _) ?_⟩
      show V.int (1 * 2 ^ ((idxS ps b : Nat) : Int).toNat) = _
      rw [Int.toNat_natCast, Int.one_mul]
      norm_cast
    · intro D H1 ts nD s1 eD pr
      obtain rfl : ts = (p.map fun b => ((2 ^ idxS ps b : Nat) : Int)).map V.int := by
        clear eD
        rw [List.map_id'] at pr
        rw [List.map_map]
        clear sub pf p4 ht k
        induction pr with
        | nil => rfl
        | cons h _ ih =>
          rw [h, ih]
          rfl
      refine ⟨D, _, rfl, SqL.of eD, ?_⟩
      have e : (p.map fun b => ((2 ^ idxS ps b : Nat) : Int)).sum = ((toN (vecP ps p) : Nat) : Int) := by
        have c := code_sum (fun x => decide (x ∈ p)) ndp
        rw [← pf] at c
        exact c
      rw [e]
      exact k _ s1
end
end K6
set_option Elab.async false
set_option linter.all false
set_option maxRecDepth 100000
set_option maxHeartbeats 8000000
/-! Part M: dict comprehensions whose keys are tuples of ints and texts. -/
namespace Lk
open PySem PySem.Spec PyProof.Rows L2
/-- what such a comprehension asks, over what is walked -/
def tDcT (wi : TI) (g : TG) (tt : TT) (tk tv : TE) (vs : List Nat) : TE := fun σ H Q => wi σ H fun J H1 => ∀ D, H1 D = none → ∃ W : Nat → Nat → Hp → Prop, (∃ m, W 0 m (upd H1 D (.dT []))) ∧ ∀ i m H, W i m H → (J.stop i H ∧ Q (.ref D) H) ∨
  (J.go i H ∧ ∃ N : Hp → Prop, (∀ H', N H' → ∃ m', m' < m ∧ W (i + 1) m' H') ∧ ∀ x H', J.yld i H x H' → g x (wipe σ vs) H' fun σ2 H2 => wipe σ2 vs = wipe σ vs ∧ tt σ2 H2 fun b H3 => if b = true then tk σ2 H3 fun y H4 => tv σ2 H4 fun z H5 =>
    ∃ kvs k c, y = .ref c ∧ H5 D = some (.dT kvs) ∧ H5 c = some (.tup (k.map kV)) ∧ kvs.length < sizeLine ∧ N (upd H5 D (.dT (putK kvs k z))) else N H3)
/-- one pair put in -/
theorem put_dT {X : Cx} {pins : List (Addr × Obj)} {σ : L2.St} {H : Hp} {s : Shared} {E : Value → Shared → Prop} {D c : Addr} {kvs : List (List Key × V)} {k : List Key} {v : V} {r : Value} {Q : Unit → Shared → Prop} (room : X.A.units < cLine) (I : Inv X pins σ H s) (eD : H D = some (.dT kvs))
    (ec : H c = some (.tup (k.map kV))) (few : kvs.length < sizeLine) (rv : RelV v r) (go : ∀ s', Inv X pins σ (upd H D (.dT (putK kvs k v))) s' → Q () s') : wpAny (model X.prog X.w) X.A (dictSet D (.ref c) r) Q E s := by
  obtain ⟨z, nsys, xs, rel, dd⟩ := dt_of I.hok eD
  have few2 : xs.length ≤ sizeLine := by rw [← Paired.length rel] <;> exact z
  have few3 : (putK kvs k v).length ≤ sizeLine := by have := length_putK kvs k v; omega
  refine wpAny_dictSet_heap (hsz := few2) room (key_of I.hok ec) dd fun h' dd' but => go _ ?_
  obtain ⟨o, es, ep, at_, q2, q3, q4, _, q5⟩ := dd'
  refine d_write I (by rw [eD]; exact True.intro) but ⟨o, at_⟩ ⟨few3, nsys, _, (rel.put k ec rv).keeps fun b ys eb => ?_, o, es, ep, at_, q2, q3, q4, q5⟩
  rw [upd_ne (ne_of eb eD (fun z => nomatch z))] <;> exact eb
/-- the comprehension's block, run -/
theorem core_dT {X : Cx} {pins : List (Addr × Obj)} {s : Shared} {σ : L2.St} {H : Hp} {Q : VK} {ek ev tg it : Expr} {ifs : List Expr} {sc : Scope} {own : List (Str × Nat)} {pos pos2 : Pos} {wi : TI} {g : TG} {tt : TT} {tk tv : TE} {use : Option (Value → Sem Unit)} {Qf : Value → Shared → Prop}
    (calm : X.calm = true) (nd : X.N.Nodup) (room : X.A.units < cLine) (I : Inv X pins σ H s) (pi : PI X tg it wi) (bo : BlkOk X.N X.env.scope sc own)
    (pg : ∀ s H C cl fp, PG (X.blk s H sc (compEnvC sc cl C X.env) fp) tg g) (pt : ∀ s H C cl fp, PTs (X.blk s H sc (compEnvC sc cl C X.env) fp) ifs tt) (pk : ∀ s H C cl fp, PE (X.blk s H sc (compEnvC sc cl C X.env) fp) ek tk) (pe : ∀ s H C cl fp, PE (X.blk s H sc (compEnvC sc cl C X.env) fp) ev tv)
    (fold : ∀ x, foldedSetIterable it X.env x = pure x) (want : tDcT wi g tt tk tv (own.map (·.2)) σ H Q) (leave : ∀ D C s' m H', Inv X pins σ H' s' → Q (.ref D) H' → s'.heap.Ns C m → FpOk X pins H' C → compPost (model X.prog X.w) X.A X.xe use Qf (.ref D) C (.ok .next) s') :
    wpAny (model X.prog X.w) X.A (comprehension (.DictComp ek ev [⟨tg, it, ifs, 0⟩] sc pos) sc X.env pos2 newDict false (eval it X.env) use) Qf X.xe s := by
  have clo : ∀ y ∈ sc.names, y.2 = .free → ∃ c, X.env.cells.lookup y.1 = some c := fun y hy e => (bo.free y hy e).elim (fun q => I.ok.has _ (.inl q)) fun q => I.ok.has _ (.inr q)
  refine wpAny_comprehension_free (use := use) rfl fold (closure_ok clo) bo.kind (fun y hy e => by rw [bo.uniq y hy, e]) (thn (pi.run pins s σ H _ I want) fun _ s1 go1 => thn go1 fun _ s2 go2 => ?_)
  obtain ⟨itr, fp, tn, J, H2, rfl, I2, T, at2, free2, q⟩ := go2
  refine wpAny_newObj_type (newEnv_comp ?_)
  have nD : H2 s2.heap.objs.size = none := I2.hok.fresh (Nat.le_refl _)
  obtain ⟨W, ⟨m0, w0⟩, turn⟩ := q _ nD
  have big2 : sysModules < s2.heap.objs.size := I2.big
  generalize eD : s2.heap.objs.size = D at nD w0 turn ⊢
  have I3 : Inv X pins σ (upd H2 D (.dT [])) { s2 with heap := s2.heap.push { cls := .type "dict", data := .dict #[] } } :=
    I2.laid (t' := s2.toks) (fun b o e => Heap.get?_push_of_some _ e) (Nat.le_of_eq eD) (by rw [← eD]; exact dt_empty s2.heap big2)
  have old : ∀ b ∈ fp, b < s2.heap.objs.size := fun b hb => by
    obtain ⟨o, e, _⟩ := T.obj _ _ at2 b hb
    exact Heap.lt_size e
  have at3 : tn 0 (s2.heap.push { cls := .type "dict", data := .dict #[] }) := T.keep _ _ _ at2 fun b _ o e => Heap.get?_push_of_some _ e
  have sz3 : (s2.heap.push { cls := .type "dict", data := .dict #[] }).objs.size = s2.heap.objs.size + 1 := Heap.size_push ..
  generalize e3 : ({ s2 with heap := s2.heap.push { cls := .type "dict", data := .dict #[] } } : Shared) = s3 at I3 ⊢
  have h3 : s3.heap = s2.heap.push { cls := .type "dict", data := .dict #[] } := by rw [← e3]
  rw [← h3] at at3 sz3
  have free3 : ∀ b ∈ fp, FpOk X pins (upd H2 D (.dT [])) b ∧ b < s3.heap.objs.size := fun b hb =>
    ⟨⟨by rw [upd_ne (by rw [← eD]; exact Nat.ne_of_lt (old b hb))]; exact (free2 b hb).1, (free2 b hb).2⟩, by rw [sz3]; exact Nat.lt_succ_of_lt (old b hb)⟩
  have I4 := block_start I3 bo nd free3
  generalize eC : cellsFrom (s3.heap.objs.size + 1) sc.names (cloFrom X.env.cells sc.names []) = cl at I4 ⊢
  have g3 := pg s3 (upd H2 D (.dT [])) s3.heap.objs.size cl fp; have t3 := pt s3 (upd H2 D (.dT [])) s3.heap.objs.size cl fp
  have k3 := pk s3 (upd H2 D (.dT [])) s3.heap.objs.size cl fp; have v3 := pe s3 (upd H2 D (.dT [])) s3.heap.objs.size cl fp
  have out3 : ∀ b ∈ fp, upd H2 D (.dT []) b = none := fun b hb => (free3 b hb).1.1
  show codeAny _ _ (.compStart (.DictComp ek ev [⟨tg, it, ifs, 0⟩] sc pos) 0 (.ref itr) (.ref D) (compEnvC sc cl s3.heap.objs.size X.env)) (compPost (model X.prog X.w) X.A X.xe use Qf (.ref D) s3.heap.objs.size) { s3 with heap := pushCells (s3.heap.push { cls := .type "dict", data := .dict #[] }) sc.names }
  generalize eE : compEnvC sc cl s3.heap.objs.size X.env = ce at I4 g3 t3 k3 v3 ⊢
  have loc : ce.locals = s3.heap.objs.size := by rw [← eE] <;> rfl
  generalize eH : upd H2 D (.dT []) = H3 at I3 I4 g3 t3 k3 v3 w0 out3 free3
  generalize e4 : ({ s3 with heap := pushCells (s3.heap.push { cls := .type "dict", data := .dict #[] }) sc.names } : Shared) = s4 at I4 ⊢
  have at4 : tn 0 s4.heap := T.keep _ _ _ at3 fun b _ o e => by rw [← e4]; exact pushCells_keeps _ _ _ _ (Heap.get?_push_of_some _ e)
  have still : ∀ {σ' : L2.St} {H' : Hp} {s' : Shared}, Inv (X.blk s3 H3 sc ce fp) [] σ' H' s' → (∀ b ∈ fp, H' b = none) → ∀ b ∈ fp, FpOk (X.blk s3 H3 sc ce fp) [] H' b := fun {σ' H' s'} J' n b hb =>
    ⟨n b hb, (J'.ok.exf b hb).1, J'.ok.exfs b hb, .inl hb, fun x c e => (J'.ok.exf b hb).2 x c e, fun p hp => absurd (show p ∈ ([] : List (Addr × Obj)) ++ [] from hp) (by simp)⟩
  suffices loop : codeAny (model X.prog X.w) X.A (.compLoop (.DictComp ek ev [⟨tg, it, ifs, 0⟩] sc pos) 0 (.ref itr) (.ref D) ce) (compPost (model X.prog X.w) X.A X.xe use Qf (.ref D) s3.heap.objs.size) s4 from codeAny_compStart_dict loop (T.self X.A 0 _ _ _ at4 loop)
  refine compLoop_anyD (fun n s' => ∃ i H', Inv (X.blk s3 H3 sc ce fp) [] (wipe σ (own.map (·.2))) H' s' ∧ tn i s'.heap ∧ (∀ b ∈ fp, H' b = none) ∧ W i n H') (fun n s5 hI => ?_) m0 ⟨0, H3, I4, at4, out3, w0⟩
  obtain ⟨i, H5, I5, at5, out5, w5⟩ := hI
  rcases turn i n H5 w5 with ⟨stop, fin⟩ | ⟨go, N, less, step⟩
  · refine thnF (T.done (X.blk s3 H3 sc ce fp) rfl rfl rfl calm i [] s5 _ H5 (fun _ _ => False) I5 (still I5 out5) at5 stop) fun r s6 ⟨er, I6⟩ => ?_
    subst er
    have I7 : Inv X pins σ H5 s6 := I3.call' (ch := fp) I6.os I6.base I6.hok I6.bare fun b hb => let z := (free3 b hb).1.2; ⟨z.2.2.1, z.1, z.2.2.2.1, z.2.2.2.2⟩
    obtain ⟨m, ns, _⟩ := I6.loc
    have ns2 : s6.heap.Ns ce.locals m := ns
    have nL : H5 ce.locals = none := I6.free
    rw [loc] at ns2 nL
    exact leave D s3.heap.objs.size s6 m H5 I7 fin ns2 (I3.fpOk (Nat.le_refl _) nL)
  · refine thnF (T.item (X.blk s3 H3 sc ce fp) rfl rfl rfl calm i [] s5 _ H5 (fun _ _ => False) I5 (still I5 out5) at5 go) fun r s6 ⟨u, er, go6⟩ => ?_
    subst er
    refine thnF go6 fun _ s7 ⟨x, H7, I7, r7, y7, at7, out7⟩ => ?_
    refine thnF (g3.run _ s7 _ H7 x u _ (I7.pinned (still I7 out7) (T.obj _ _ at7)) r7 (step x H7 y7)) fun _ s8 ⟨σ8, H8, I8, wi8, q8⟩ => thnF (t3.run _ s8 σ8 H8 _ I8 q8) fun b s9 ⟨H9, I9, q9⟩ => ?_
    have next : ∀ {s' : Shared} {H' : Hp}, Inv (X.blk s3 H3 sc ce fp) ([] ++ pinsAt fp s7.heap) σ8 H' s' → N H' → ∃ m, m < n ∧ ∃ i H', Inv (X.blk s3 H3 sc ce fp) [] (wipe σ (own.map (·.2))) H' s' ∧ tn i s'.heap ∧ (∀ b ∈ fp, H' b = none) ∧ W i m H' := fun {s' H'} J' nx => by
      obtain ⟨m', lt, w'⟩ := less H' nx
      have pinned : ∀ b ∈ fp, ∀ o, s7.heap.get? b = some o → s'.heap.get? b = some o ∧ H' b = none := fun b hb o e => let z := J'.pin (b, o) (List.mem_append_right _ (List.mem_append_right _ (mem_pinsAt hb e))); ⟨z.1, z.2.1⟩
      refine ⟨m', lt, i + 1, H', (J'.unpinned (pins := [])).weak (by rw [← wi8, wipe_length]) (fun j v e => ?_), T.keep _ _ _ at7 fun b hb o e => (pinned b hb o e).1, fun b hb => ?_, w'⟩
      · rw [← wi8] at e; exact (wipe_some e).1
      · obtain ⟨o, e, _⟩ := T.obj _ _ at7 b hb; exact (pinned b hb o e).2
    cases b with
    | false => simp only [Bool.false_eq_true, if_false] at q9 ⊢; exact next I9 q9
    | true =>
      simp only [if_true] at q9 ⊢
      refine thnF (k3.run _ s9 σ8 H9 _ I9 q9) fun z1 sA ⟨y, HA, IA, rA, qA⟩ => thnF (v3.run _ sA σ8 HA _ IA qA) fun z2 sB ⟨z, HB, IB, rB, kvs, k, c, ey, eD', ec, few, nx⟩ => ?_
      subst ey
      cases (show z1 = Value.ref c from rA)
      exact put_dT (X := X.blk s3 H3 sc ce fp) room IB eD' ec few rB fun sC IC => next IC nx
/-- the comprehension as a value -/
theorem pe_dcT {X : Cx} {ek ev tg it : Expr} {ifs : List Expr} {sc : Scope} {own : List (Str × Nat)} {pos : Pos} {wi : TI} {g : TG} {tt : TT} {tk tv : TE} (calm : X.calm = true) (nd : X.N.Nodup) (room : X.A.units < cLine) (pi : PI X tg it wi) (bo : BlkOk X.N X.env.scope sc own)
    (pg : ∀ s H C cl fp, PG (X.blk s H sc (compEnvC sc cl C X.env) fp) tg g) (pt : ∀ s H C cl fp, PTs (X.blk s H sc (compEnvC sc cl C X.env) fp) ifs tt) (pk : ∀ s H C cl fp, PE (X.blk s H sc (compEnvC sc cl C X.env) fp) ek tk) (pe : ∀ s H C cl fp, PE (X.blk s H sc (compEnvC sc cl C X.env) fp) ev tv)
    (fold : ∀ x, foldedSetIterable it X.env x = pure x := by intro _; rfl) : PE X (.DictComp ek ev [⟨tg, it, ifs, 0⟩] sc pos) (tDcT wi g tt tk tv (own.map (·.2))) := by
  refine ⟨fun pins s σ H Q I want => ?_⟩
  rw [arm_eval_DictComp] <;> refine core_dT calm nd room I pi bo pg pt pk pe fold want fun D C s' m H' I' q ns ⟨f0, f1, f2, f3, f4, f5⟩ => ⟨m, ns, fun h'' but => ?_⟩
  exact ⟨.ref D, H', I'.turned (t' := s'.toks) (fun b o nb e => (but.2 b nb).trans e) f0 f1 f3 f4 f5, rfl, q⟩
end Lk
set_option Elab.async false
set_option linter.all false
set_option maxRecDepth 100000
set_option maxHeartbeats 4000000
set_option pp.maxSteps 1200
set_option pp.deepTerms false
namespace K6
open PySem PySem.Spec PyProof.Rows L2 Lk
abbrev sShelfInit : Stmt := inClass (top 31) 0
theorem _root_.Lk.KeepB.of {D : Addr} {H H' : Hp} (s : Same H H') : KeepB D H H' := fun b o _ e => s b o e
theorem _root_.Lk.KeepB.trans {D : Addr} {H H1 H2 : Hp} (x : KeepB D H H1) (y : KeepB D H1 H2) : KeepB D H H2 := fun b o n e => y b o n (x b o n e)
theorem _root_.Lk.KeepB.upd {D : Addr} {H : Hp} {o : HO} : KeepB D H (upd H D o) := fun b u n e => by rw [upd_ne n]; exact e
theorem _root_.Lk.TupX.keepB {x a : Addr} {H H' : Hp} {xs : List V} (h : TupX H a xs) (k : KeepB x H H') (n : a ≠ x) : TupX H' a xs := by
  obtain ⟨ob, e, r⟩ := h
  exact ⟨ob, k _ _ n e, r⟩
theorem _root_.Lk.TupX.ne {x a C dx : Addr} {H : Hp} {xs : List V} {fs : List (Str × V)} (h : TupX H a xs) (e : H x = some (.ins C dx fs)) : a ≠ x := fun z => by
  obtain ⟨ob, e2, _⟩ := h
  rw [z, e] at e2
  cases e2
def RelK (H : Hp) (v : V) (k : KP) : Prop := ∃ r ts, v = V.ref r ∧ H r = some (.tup ts) ∧ Pieces H ts k.2
theorem RelK.keep (H H' : Hp) (v : V) (k : KP) (kp : Keep H H') (h : RelK H v k) : RelK H' v k := by
  obtain ⟨r, ts, e, h, p⟩ := h
  exact ⟨r, ts, e, kp _ _ h (fun xs z => by cases z), Paired.mapP p fun v p ⟨t, e, h⟩ => ⟨t, e, kp _ _ h fun xs z => by cases z⟩⟩
theorem tups_kb {x C dx : Addr} {fs : List (Str × V)} {H H' : Hp} (k : KeepB x H H') (e : H x = some (.ins C dx fs)) : Tups H H' := fun b xs h => k b _ (fun z => by rw [z, e] at h; cases h) h
theorem CircAt.keepB {x CS dx C c : Addr} {fs : List (Str × V)} {H H' : Hp} {zs : List Str} (h : CircAt H C c zs) (k : KeepB x H H') (e : H x = some (.ins CS dx fs)) (n : c ≠ x) : CircAt H' C c zs := by
  obtain ⟨cd, nm, e1, t⟩ := h
  exact ⟨cd, nm, k _ _ n e1, t.keepB k (t.ne e)⟩
theorem PcsAt.tups {q : Addr} {ks : List KP} {H H' : Hp} (h : PcsAt H q ks) (t : Tups H H') : PcsAt H' q ks := by
  obtain ⟨rows, e, p⟩ := h
  exact ⟨rows, t _ _ e, Paired.mapP p fun v k ⟨r, ts, e1, e2, e3⟩ => ⟨r, ts, e1, t _ _ e2, e3.tups t⟩⟩
theorem spots_len : ∀ ks : List KP, (∀ k ∈ ks, k.2.length ≤ 2) → (spotsOf ks).length ≤ 2 * ks.length
  | [], _ => Nat.zero_le _
  | k :: ks, h => by
    have ih := spots_len ks fun y hy => h y (List.mem_cons_of_mem _ hy)
    have h1 := h k List.mem_cons_self
    unfold spotsOf at ih ⊢
    rw [List.flatMap_cons, List.length_append, List.length_map, List.length_range, List.length_cons]
    omega
theorem paired_put {α β : Type} {R : α → β → Prop} : ∀ {xs : List α} {ys : List β} {i : Nat} {x : α}, Paired R xs ys → xs[i]? = some x → ∃ y, ys[i]? = some y ∧ R x y
  | _, _, _, _, .nil, h => by simp at h
  | _, _, 0, x, .cons (b := b) r t, h => by
    simp at h
    subst h
    exact ⟨b, rfl, r⟩
  | _, _, i + 1, x, .cons r t, h => by
    obtain ⟨y, h1, h2⟩ := paired_put t (by simpa using h)
    exact ⟨y, by simpa using h1, h2⟩
theorem paired_mapR {α β γ : Type} {R : α → β → Prop} {f : γ → β} : ∀ {xs : List α} {ys : List γ}, Paired R xs (ys.map f) → Paired (fun x y => R x (f y)) xs ys
  | [], [], _ => .nil
  | _ :: _, _ :: _, .cons h t => .cons h (paired_mapR t)
def RelW (D : Addr) (H : Hp) (v : V) (ws : List Str) : Prop := ∃ t, v = V.ref t ∧ H t = some (.lst (ws.map V.str)) ∧ t ≠ D
theorem RelW.keep {D : Addr} (H H' : Hp) (v : V) (ws : List Str) (k : KeepB D H H') (h : RelW D H v ws) : RelW D H' v ws := by
  obtain ⟨t, e, h, n⟩ := h
  exact ⟨t, e, k _ _ n h, n⟩
def pieceOf (L : Lore) (s : Spot) : List Str := (((L.kps.find? fun k => decide (k.1 = s.1)).map (·.2)).getD []).getD s.2 []
theorem find_at {ks : List KP} (nd : (ks.map (·.1)).Nodup) : ∀ {k : KP}, k ∈ ks → (ks.find? fun q => decide (q.1 = k.1)) = some k := by
  induction ks with
  | nil => intro k h; cases h
  | cons q ks ih =>
    intro k h
    have n2 := List.nodup_cons.mp nd
    rcases List.mem_cons.mp h with rfl | h
    · rw [List.find?_cons_of_pos (by simp)]
    · have : q.1 ≠ k.1 := fun e => n2.1 (List.mem_map.mpr ⟨k, h, e.symm⟩)
      rw [List.find?_cons_of_neg (by simpa using this)]
      exact ih n2.2 h
theorem piece_of {L : Lore} (ok : LoreOk L) {s : Spot} (h : s ∈ spotsOf L.kps) : ∃ (j : Nat) (kq : KP), L.kps[j]? = some kq ∧ kq.1 = s.1 ∧ kq.2[s.2]? = some (pieceOf L s) := by
  obtain ⟨kq, hk, hs⟩ := List.mem_flatMap.mp h
  obtain ⟨i, hi, rfl⟩ := List.mem_map.mp hs
  obtain ⟨j, hj⟩ := List.mem_iff_getElem?.mp hk
  refine ⟨j, kq, hj, rfl, ?_⟩
  unfold pieceOf
  have := find_at ok.kn hk
  dsimp only
  rw [this]
  have il := List.mem_range.mp hi
  simp [il]
/-- the codes of a shelf's pieces, by their spots -/
def keyS (s : Spot) : List L2.Key := [.inr s.1, .inl (s.2 : Int)]
theorem keyS_inj {s t : Spot} (h : keyS s = keyS t) : s = t := by
  obtain ⟨s1, s2⟩ := s
  obtain ⟨t1, t2⟩ := t
  simp only [keyS, List.cons.injEq, Sum.inr.injEq, Sum.inl.injEq, and_true] at h
  obtain ⟨rfl, h⟩ := h
  rw [Int.ofNat_inj.mp h]
def codeS (L : Lore) (s : Spot) : Vec := vecP L.parts (pieceOf L s)
theorem nodup_fst {ks : List KP} (nd : (ks.map (·.1)).Nodup) {a b : KP} (ha : a ∈ ks) (hb : b ∈ ks) (e : a.1 = b.1) : a = b := by
  have h1 := find_at nd ha
  have h2 := find_at nd hb
  rw [e] at h1
  rw [h1] at h2
  exact Option.some.inj h2
def CodesAt (H : Hp) (L : Lore) (fs : List (Str × V)) : Prop := ∃ D kvs, fs.lookup ("codes" : Str) = some (V.ref D) ∧ H D = some (.dT kvs) ∧ ∀ s ∈ spotsOf L.kps, valV kvs (keyS s) = some (.int ((toN (codeS L s) : Nat) : Int))
section
variable {P : Program} {w : World} {K : PySem.W.Frag} {mg : Str → Option Value} {base : Heap} {f : Addr} {fd : FuncData}
/-- the spots of a shelf -/
def ShS (H : Hp) (L : Lore) (fs : List (Str × V)) : Prop := ∃ p ts, fs.lookup ("spots" : Str) = some (V.ref p) ∧ H p = some (.tup ts) ∧ Paired (RelS H) ts (spotsOf L.kps) ∧ CodesAt H L fs
/-- Shelf.__init__, of a text that stands -/
def spShelfI (C CS : Addr) : Sp := fun vs H Q _ => ∃ (x dx : Addr) (L : Lore), vs = [.ref x, .str (textL L)] ∧ LoreOk L ∧ H x = some (.ins CS dx []) ∧
  ∀ H' fs, (∀ b o, b ≠ x → H b = some o → H' b = some o) → H' x = some (.ins CS dx fs) → ShF H' C L fs → fs.lookup ("text" : Str) = some (V.str (textL L)) → ShS H' L fs → Q .non H'
theorem scShelfI : FnScope ["self", "text", "wrong", "rows", "line", "row", "spot"] ["self", "text"] (defScope sShelfInit) := ⟨rfl, rfl, rfl, by decide +kernel, rfl, by decide +kernel, by decide +kernel⟩
theorem ok_shelfI {C CS fC fSh fS fH fW fN fA fR fP fO : Addr} {fdC fdW fdA fdR fdP fdO : FuncData} (F : Fun K "__init__" "Shelf.__init__" sShelfInit f fd) (T : Bl mg) (Cc : Cn mg) (CC : CircC K C fC) (SC : ShC K CS fSh)
    (GW : FnOk P w K mg base CX0 5 fW fdW ["text", "can_stand", "is_whole"] (spWrong fS fH)) (kW : PySem.W.keepIn K (.ref fW) = true) (bW : Binds K fdW ["text", "can_stand", "is_whole"] []) (mW : mg "wrong_line" = some (.ref fW)) (mS : mg "stands_in_shelf" = some (.ref fS)) (mH : mg "is_whole_shelf" = some (.ref fH))
    (GC : FnOk P w K mg base CX0 3 fC fdC ["self", "names"] (spCircI K C)) (bC : Binds K fdC ["self", "names"] []) (mC : mg "Circle" = some (.ref C))
    (GR : FnOk P w K mg base CX0 1 fR fdR ["words"] (spReadPieces K)) (kR : PySem.W.keepIn K (.ref fR) = true) (bR : Binds K fdR ["words"] []) (mR : mg "read_pieces" = some (.ref fR))
    (GA : FnOk P w K mg base CX0 1 fA fdA ["circle", "pieces"] (spAllSpots C)) (kA : PySem.W.keepIn K (.ref fA) = true) (bA : Binds K fdA ["circle", "pieces"] []) (mA : mg "all_spots" = some (.ref fA))
    (GP : FnOk P w K mg base CX0 1 fP fdP ["shelf", "spot"] (spPieceAt C CS)) (kP : PySem.W.keepIn K (.ref fP) = true) (bP : Binds K fdP ["shelf", "spot"] []) (mP : mg "piece_at" = some (.ref fP))
    (GO : FnOk P w K mg base CX0 1 fO fdO ["parts", "piece"] spPieceCode) (kO : PySem.W.keepIn K (.ref fO) = true) (bO : Binds K fdO ["parts", "piece"] []) (mO : mg "piece_code" = some (.ref fO)) :
    FnOk P w K mg base CX0 6 f fd ["self", "text"] (spShelfI C CS) := by
  refine F.ok scShelfI (fun vs H Q E h => ?_) (fun cdv A outer s H vs Q E hr h => ?_)
  · obtain ⟨x, dx, L, rfl, _⟩ := h
    rfl
  · obtain ⟨x, dx, L, rfl, ok, hx, k⟩ := h
    have nd := scShelfI.nd
    have hr1 : Room 1 _ := hr.mono (by decide)
    have hr4 : Room 4 _ := hr.mono (by decide)
    refine ⟨_, pss_cons (ps_set (i := 2) nd rfl (.inl rfl) (pe_call GW hr (by rfl) mW kW bW .nil pass0 (pa_cons (pv 1) (pa_cons (pe_glob (v := .ref fS) (by rfl) mS rfl) (pa_cons (pe_glob (v := .ref fH) (by rfl) mH rfl) pa_nil)))))
      (pss_cons (ps_if (pt_cmp (pc_notN (pv 2))) pss_no pss_nil)
      (pss_cons (ps_setLc (i := 3) (own := [("line", 4)]) (g := gName 4) (tt := tYes) (te := tM1 rSplit (tVar 4) (tC (.str " "))) rfl nd rfl rfl (sw_true rfl rfl rfl (by decide +kernel)) (pi_list (pe_split (pv 1) pe_str))
          (blkOk_by (N := ["self", "text", "wrong", "rows", "line", "row", "spot"]) (sc := defScope sShelfInit) (by decide +kernel)) (fun _ _ _ _ _ => pg_name (i := 4) nd rfl (.inl rfl)) (fun _ _ _ _ _ => pts_nil) (fun _ _ _ _ _ => pe_split (pv 4) pe_str))
      (pss_cons (ps_fld (pv 0) (pv 1) rfl)
      (pss_cons (ps_fld (pv 0) (pe_tupleX (by rfl) Cc.tuple (pe_slice sl_list (pe_ix ix_list (pv 3) pe_int (fun _ _ => rfl)) (po_some pe_int) po_none)) rfl)
      (pss_cons (ps_fld (pv 0) (pe_make CC.mkr GC hr4 (by rfl) mC bC .nil pass0 (pa_cons (pe_tupleX (by rfl) Cc.tuple (pe_lc (own := [("row", 5)]) (g := gName 5) (tt := tYes) (te := tOp (rIxL K) (tVar 5) (tC (.int 1))) rfl nd (pi_list (pe_slice sl_list (pv 3) (po_some pe_int) po_none))
          (blkOk_by (N := ["self", "text", "wrong", "rows", "line", "row", "spot"]) (sc := defScope sShelfInit) (by decide +kernel)) (fun _ _ _ _ _ => pg_name (i := 5) nd rfl (.inl rfl)) (fun _ _ _ _ _ => pts_nil) (fun _ _ _ _ _ => pe_ix ix_list (pv 5) pe_int (fun _ _ => rfl)))) pa_nil)) rfl)
      (pss_cons (ps_fld (pv 0) (pe_tupleOf (by rfl) Cc.tuple (pe_lc (own := [("row", 5)]) (g := gName 5) (tt := tYes) (te := tCall (spReadPieces K) [] E0 (tCons (tSl (rSlL K) (tVar 5) (tPart (tC (.int 2))) tNoPart) tNil)) rfl nd (pi_list (pe_slice sl_list (pv 3) (po_some pe_int) po_none))
          (blkOk_by (N := ["self", "text", "wrong", "rows", "line", "row", "spot"]) (sc := defScope sShelfInit) (by decide +kernel)) (fun _ _ _ _ _ => pg_name (i := 5) nd rfl (.inl rfl)) (fun _ _ _ _ _ => pts_nil)
          (fun _ _ _ _ _ => pe_call GR hr1 (by rfl) mR kR bR .nil pass0 (pa_cons (pe_slice sl_list (pv 5) (po_some pe_int) po_none) pa_nil)))) rfl)
      (pss_cons (ps_fld (pv 0) (pe_call GA hr1 (by rfl) mA kA bA .nil pass0 (pa_cons (pe_fld (pv 0) rfl) (pa_cons (pe_fld (pv 0) rfl) pa_nil))) rfl)
        (pss_one (ps_fld (pv 0) (pe_dcT (own := [("spot", 6)]) (g := gName 6) (tt := tYes) (tk := tVar 6) (tv := tCall spPieceCode [] E0 (tCons (tFld K (tVar 0) "parts") (tCons (tCall (spPieceAt C CS) [] E0 (tCons (tVar 0) (tCons (tVar 6) tNil))) tNil))) rfl nd (Nat.lt_of_succ_lt (hu_of hr)) (pi_tup (pe_fld (pv 0) rfl))
          (blkOk_by (N := ["self", "text", "wrong", "rows", "line", "row", "spot"]) (sc := defScope sShelfInit) (by decide +kernel)) (fun _ _ _ _ _ => pg_name (i := 6) nd rfl (.inl rfl)) (fun _ _ _ _ _ => pts_nil) (fun _ _ _ _ _ => pv 6)
          (fun _ _ _ _ _ => pe_call GO hr1 (by rfl) mO kO bO .nil pass0 (pa_cons (pe_fld (pv 0) rfl) (pa_cons (pe_call GP hr1 (by rfl) mP kP bP .nil pass0 (pa_cons (pv 0) (pa_cons (pv 6) pa_nil))) pa_nil)))) rfl))))))))), ?_⟩
    have tl := text_len ok
    have rl : (rowsL L).length = L.kps.length + 1 := by show (L.kps.map lineK).length + 1 = _; rw [List.length_map]
    have k6 := ok.k6
    have p4 := ok.p4
    have words : (rowsL L).map (fun z => Txt.split z " ") = (("parts" : Str) :: L.parts) :: L.kps.map wordsK := by
      show Txt.split (lineP L) " " :: (L.kps.map lineK).map _ = _
      rw [split_lineP ok, List.map_map]
      congr 1
      exact List.map_congr_left fun k hk => split_lineK ok hk
    refine ⟨_, rfl, L, rfl, ok, fun H1 s1 => ?_⟩
    refine ⟨_, rfl, _, rfl, iteB rfl ?_⟩
    -- rows
    refine ⟨_, rfl, ⟨_, rfl⟩, _, _, rfl, rfl, rfl, by rw [sizeLine_eq]; omega, fun l nl => ?_⟩
    rw [split_text ok]
    have el : SqL K (upd H1 l (.lst ((rowsL L).map V.str))) l ((rowsL L).map V.str) := SqL.of upd_same
    have s2 : Same H (upd H1 l (.lst ((rowsL L).map V.str))) := s1.trans (same_new nl)
    generalize upd H1 l (.lst ((rowsL L).map V.str)) = H2 at el s2
    refine ⟨l, rfl, ⟨_, el⟩, fun D nD => lc_relD (walk_list (a := l) (xs := (rowsL L).map V.str)) (rowsL L) V.str (fun z => Txt.split z " ") (RelW D) nD RelW.keep rfl (by rw [rl]; omega) (fun H s => s.seq el) ?_ ?_⟩
    · intro i line H3 R hb s3 hD kk
      have ll := rows_len ok line (List.mem_of_getElem? hb)
      refine ⟨rfl, _, rfl, ⟨_, rfl⟩, _, _, rfl, rfl, rfl, by rw [sizeLine_eq]; omega, fun t nt => kk _ _ (same_new nt) ⟨t, rfl, upd_same, fun z => hD (by rw [← z]; exact nt)⟩⟩
    intro H3 ts s3 eD pr
    rw [words] at pr
    obtain ⟨v0, vs, rfl, ⟨t0, rfl, et0, n0⟩, pr2⟩ : ∃ v0 vs, ts = v0 :: vs ∧ RelW D H3 v0 (("parts" : Str) :: L.parts) ∧ Paired (RelW D H3) vs (L.kps.map wordsK) := by
      cases pr with
      | cons h t => exact ⟨_, _, rfl, h, t⟩
    have pr3 := paired_mapR pr2
    clear pr2 pr
    have sH : Same H H3 := s2.trans s3
    have ex3 := sH _ _ hx
    -- self.text
    refine ⟨_, rfl, _, rfl, x, CS, dx, [], rfl, ex3, SC.cls, SC.text, by decide, ?_⟩
    have kb4 : KeepB x H3 (upd H3 x (.ins CS dx (putF "text" (.str (textL L)) []))) := KeepB.upd
    have ex4 : upd H3 x (.ins CS dx (putF "text" (.str (textL L)) [])) x = some (.ins CS dx [("text", .str (textL L))]) := upd_same
    generalize upd H3 x (.ins CS dx (putF "text" (.str (textL L)) [])) = H4 at kb4 ex4 ⊢
    have lx : ∀ {b : Addr} {xs : List V}, H3 b = some (.lst xs) → b ≠ x := fun {b xs} e z => by rw [z, ex3] at e; cases e
    have eD4 := kb4 _ _ (lx eD) eD
    have et4 := kb4 _ _ (lx et0) et0
    -- self.parts
    refine ⟨_, rfl, D, _, _, .ref t0, rfl, rfl, SqL.of eD4, at0 rfl, _, rfl, t0, _, rfl, SqL.of et4, fun q nq => ?_⟩
    rw [cut1 _ (by rw [List.length_map, List.length_cons]; omega)]
    refine ⟨q, _, rfl, SqL.of upd_same, fun pa H5 npa s5 tpa => ?_⟩
    have sq : Same H4 H5 := (same_new nq).trans s5
    have ex5 := sq _ _ ex4
    have tpa : TupX H5 pa (L.parts.map V.str) := tpa
    refine ⟨_, rfl, x, CS, dx, _, rfl, ex5, SC.cls, SC.parts, by show 1 < 1000; decide, ?_⟩
    have kb6 : KeepB x H5 (upd H5 x (.ins CS dx (putF "parts" (.ref pa) [("text", .str (textL L))]))) := KeepB.upd
    have ex6 : upd H5 x (.ins CS dx (putF "parts" (.ref pa) [("text", .str (textL L))])) x = some (.ins CS dx [("text", .str (textL L)), ("parts", .ref pa)]) := upd_same
    generalize upd H5 x (.ins CS dx (putF "parts" (.ref pa) [("text", .str (textL L))])) = H6 at kb6 ex6 ⊢
    have tpa6 : TupX H6 pa (L.parts.map V.str) := tpa.keepB kb6 (tpa.ne ex5)
    have k36 : KeepB x H3 H6 := kb4.trans ((KeepB.of sq).trans kb6)
    have eD6 := k36 _ _ (lx eD) eD
    have pr6 : Paired (fun v k => RelW D H6 v (wordsK k)) vs L.kps := Paired.mapP pr3 fun v k ⟨t, e, h, n⟩ => ⟨t, e, k36 _ _ (lx h) h, n⟩
    obtain ⟨zs, z1, z2, z3⟩ := paired_zip pr6
    have zl : zs.length = L.kps.length := by rw [← z2, List.length_map]
    have vl : vs.length = L.kps.length := by rw [← z1, List.length_map, zl]
    -- self.circle
    refine ⟨_, rfl, _, rfl, D, _, rfl, SqL.of eD6, fun r nr => ?_⟩
    rw [cut1 _ (by rw [List.length_cons]; omega)]
    have sr : Same H6 (upd H6 r (.lst (List.drop 1 (V.ref t0 :: vs)))) := same_new nr
    have er : SqL K (upd H6 r (.lst (List.drop 1 (V.ref t0 :: vs)))) r vs := SqL.of upd_same
    generalize upd H6 r (.lst (List.drop 1 (V.ref t0 :: vs))) = H7 at sr er
    refine ⟨r, rfl, ⟨_, er⟩, fun D2 nD2 => lc_fm (walk_list (a := r) (xs := vs)) zs (fun z => some (V.str z.2.1)) (by rw [zl, vl]) (by rw [vl]; omega) nD2 (fun H s => s.seq er) ?_ ?_⟩
    · rintro i v z H8 H8' R Rn hz s8 ⟨rfl, hv⟩ k1 k2
      obtain ⟨t, et, h, n⟩ := z3 z (List.mem_of_getElem? hz)
      obtain rfl : z.1 = v := by
        rw [← z1, List.getElem?_map, hz] at hv
        exact Option.some.inj hv
      exact ⟨rfl, _, rfl, t, _, _, .str z.2.1, et, rfl, SqL.of (s8 _ _ (sr _ _ h)), at1 rfl, k1 _ _ rfl (Same.refl _)⟩
    intro H8 s8 eD2
    have fe : (zs.filterMap fun z => some (V.str z.2.1)) = (L.kps.map (·.1)).map V.str := by
      rw [← z2]
      simp [Function.comp_def]
    rw [fe] at eD2
    refine ⟨D2, _, rfl, SqL.of eD2, fun nm H9 nnm s9 tnm => ?_⟩
    have k69 : Same H6 H9 := (sr.trans s8).trans s9
    intro c cdx nc ncd ncc
    have sM : Same H9 (upd (upd H9 cdx (.own c)) c (.ins C cdx [])) := fun b o e => by rw [upd_ne (ne_of_none e nc), upd_ne (ne_of_none e ncd)]; exact e
    have kl : (L.kps.map (·.1)).length = L.kps.length := List.length_map ..
    refine ⟨c, nm, cdx, L.kps.map (·.1), rfl, upd_same, tnm.same sM, by rw [kl]; exact ok.k2, by rw [kl]; exact k6, fun z hz => ?_, ok.kn, fun HA kbA ecA => ⟨rfl, ?_⟩⟩
    · obtain ⟨kq, hk, rfl⟩ := List.mem_map.mp hz
      exact low_names _ (ok.kp kq hk)
    have sA : Same H9 HA := fun b o e => kbA b o (ne_of_none e nc) (sM b o e)
    have ex9 := k69 _ _ ex6
    have ncx : c ≠ x := fun z => by rw [z, ex9] at nc; cases nc
    have exA := sA _ _ ex9
    refine ⟨_, rfl, x, CS, dx, _, rfl, exA, SC.cls, SC.circle, by show 2 < 1000; decide, ?_⟩
    have kbB : KeepB x HA (upd HA x (.ins CS dx (putF "circle" (.ref c) [("text", .str (textL L)), ("parts", .ref pa)]))) := KeepB.upd
    have exB : upd HA x (.ins CS dx (putF "circle" (.ref c) [("text", .str (textL L)), ("parts", .ref pa)])) x = some (.ins CS dx [("text", .str (textL L)), ("parts", .ref pa), ("circle", .ref c)]) := upd_same
    generalize upd HA x (.ins CS dx (putF "circle" (.ref c) [("text", .str (textL L)), ("parts", .ref pa)])) = HB at kbB exB ⊢
    have tnA := tnm.same sA
    have caB : CircAt HB C c (L.kps.map (·.1)) := ⟨cdx, nm, kbB _ _ ncx ecA, tnA.keepB kbB (tnA.ne exA)⟩
    have k6B : KeepB x H6 HB := (KeepB.of (k69.trans sA)).trans kbB
    have tpaB : TupX HB pa (L.parts.map V.str) := tpa6.keepB k6B (tpa6.ne ex6)
    have eDB := k6B _ _ (lx eD) eD6
    -- self.pieces
    refine ⟨_, rfl, _, rfl, D, _, rfl, SqL.of eDB, fun r2 nr2 => ?_⟩
    rw [cut1 _ (by rw [List.length_cons]; omega)]
    have sr2 : Same HB (upd HB r2 (.lst (List.drop 1 (V.ref t0 :: vs)))) := same_new nr2
    have er2 : SqL K (upd HB r2 (.lst (List.drop 1 (V.ref t0 :: vs)))) r2 vs := SqL.of upd_same
    generalize upd HB r2 (.lst (List.drop 1 (V.ref t0 :: vs))) = HC at sr2 er2
    refine ⟨r2, rfl, ⟨_, er2⟩, fun D3 nD3 => lc_relQ (walk_list (a := r2) (xs := vs)) nD3 zs (·.1) (·.2) RelK RelK.keep z1.symm (by omega) (fun H s => s.seq er2) ?_ ?_⟩
    · intro i z HE R hz sE kk
      obtain ⟨t, et, h, n⟩ := z3 z (List.mem_of_getElem? hz)
      have tx : t ≠ x := fun e => by rw [e, ex6] at h; cases h
      have km : z.2 ∈ L.kps := by rw [← z2]; exact List.mem_map.mpr ⟨z, List.mem_of_getElem? hz, rfl⟩
      obtain ⟨q1, q2, q3⟩ := ok.q z.2 km
      refine ⟨rfl, _, rfl, _, rfl, t, _, et, SqL.of (sE _ _ (sr2 _ _ (k6B _ _ tx h))), fun q nq => ?_⟩
      rw [cut2 _ (by rw [List.length_map]; show 2 ≤ (z.2.2.map pieceW).length + 1 + 1; omega)]
      exact ⟨q, L, z.2.2, rfl, ok, SqL.of upd_same, by omega, q3, fun u us H' s' eu pu => kk H' _ ((same_new nq).trans s') ⟨u, us, rfl, eu, pu⟩⟩
    intro HE rws sE eD3 prE
    rw [z2] at prE
    refine .inl ⟨D3, _, rfl, SqL.of eD3, fun q nq => ?_⟩
    have sq2 : Same HB (upd HE q (.tup rws)) := (sr2.trans sE).trans (same_new nq)
    have pcF : PcsAt (upd HE q (.tup rws)) q L.kps := ⟨rws, upd_same, Paired.mapP prE fun v k r => RelK.keep _ _ _ _ (.of (same_new nq)) r⟩
    generalize upd HE q (.tup rws) = HF at sq2 pcF
    have exF := sq2 _ _ exB
    refine ⟨_, rfl, x, CS, dx, _, rfl, exF, SC.cls, SC.pieces, by show 3 < 1000; decide, ?_⟩
    have kbG : KeepB x HF (upd HF x (.ins CS dx (putF "pieces" (.ref q) [("text", .str (textL L)), ("parts", .ref pa), ("circle", .ref c)]))) := KeepB.upd
    have exG : upd HF x (.ins CS dx (putF "pieces" (.ref q) [("text", .str (textL L)), ("parts", .ref pa), ("circle", .ref c)])) x = some (.ins CS dx [("text", .str (textL L)), ("parts", .ref pa), ("circle", .ref c), ("pieces", .ref q)]) := upd_same
    generalize upd HF x (.ins CS dx (putF "pieces" (.ref q) [("text", .str (textL L)), ("parts", .ref pa), ("circle", .ref c)])) = HG at kbG exG ⊢
    have tG := tups_kb kbG exF
    have tpF := tpaB.same sq2
    have tpG := tpF.keepB kbG (tpF.ne exF)
    have caG := (caB.same sq2).keepB kbG exF ncx
    have pcG := pcF.tups tG
    -- self.spots
    refine ⟨_, rfl, x, CS, dx, _, .ref c, rfl, exG, SC.cls, SC.circle, rfl, _, rfl, x, CS, dx, _, .ref q, rfl, exG, SC.cls, SC.pieces, rfl, c, q, L.kps, rfl, caG, pcG, k6, fun k hk => (ok.q k hk).2.1, fun p ss HI sI ep pp => ?_⟩
    have exI := sI _ _ exG
    refine ⟨_, rfl, x, CS, dx, _, rfl, exI, SC.cls, SC.spots, by show 4 < 1000; decide, ?_⟩
    have kbJ : KeepB x HI (upd HI x (.ins CS dx (putF "spots" (.ref p) [("text", .str (textL L)), ("parts", .ref pa), ("circle", .ref c), ("pieces", .ref q)]))) := KeepB.upd
    have exJ : upd HI x (.ins CS dx (putF "spots" (.ref p) [("text", .str (textL L)), ("parts", .ref pa), ("circle", .ref c), ("pieces", .ref q)])) x = some (.ins CS dx [("text", .str (textL L)), ("parts", .ref pa), ("circle", .ref c), ("pieces", .ref q), ("spots", .ref p)]) := upd_same
    generalize upd HI x (.ins CS dx (putF "spots" (.ref p) [("text", .str (textL L)), ("parts", .ref pa), ("circle", .ref c), ("pieces", .ref q)])) = HJ at kbJ exJ ⊢
    have tJ := tups_kb kbJ exI
    have tpI := tpG.same sI
    have tpJ := tpI.keepB kbJ (tpI.ne exI)
    have caJ := (caG.same sI).keepB kbJ exI ncx
    have pcJ := (pcG.same sI).tups tJ
    have epJ := tJ _ _ ep
    have ppJ : Paired (RelS HJ) ss (spotsOf L.kps) := Paired.mapP pp fun v s ⟨t, e, h⟩ => ⟨t, e, tJ _ _ h⟩
    have shJ : ShF HJ C L [("text", .str (textL L)), ("parts", .ref pa), ("circle", .ref c), ("pieces", .ref q), ("spots", .ref p)] := ⟨⟨pa, rfl, tpJ⟩, ⟨c, rfl, caJ⟩, ⟨q, rfl, pcJ⟩⟩
    have few : ss.length ≤ 12 := by
      have h1 := spots_len L.kps fun k hk => (ok.q k hk).2.1
      have h2 := ppJ.length
      omega
    -- self.codes
    refine ⟨_, rfl, x, CS, dx, _, .ref p, rfl, exJ, SC.cls, SC.spots, rfl, p, rfl, ⟨_, SqT.of epJ⟩, fun D5 nD5 => in_it (walk_tup (a := p) (xs := ss)) (fun i H => ∃ kvs, H D5 = some (.dT kvs) ∧ kvs.length ≤ i ∧ (∀ i' s, i' < i → (spotsOf L.kps)[i']? = some s → valV kvs (keyS s) = some (.int ((toN (codeS L s) : Nat) : Int))) ∧ Same HJ H) ⟨[], upd_same, by simp, fun _ _ h => absurd h (Nat.not_lt_zero _), same_new nD5⟩ (fun i H _ ⟨_, _, _, _, s⟩ => sqT_same s (SqT.of epJ)) ?_ ?_⟩
    · rintro i v HK HK' hi ⟨kvs, eK, kvl, kvv, sK⟩ ⟨rfl, hv⟩
      obtain ⟨sp, hs, t, rfl, ht⟩ := paired_put ppJ hv
      obtain ⟨kq, hk, hmm⟩ := List.mem_flatMap.mp (List.mem_of_getElem? hs)
      obtain ⟨m, hm, rfl⟩ := List.mem_map.mp hmm
      obtain ⟨j, hj⟩ := List.mem_iff_getElem?.mp hk
      have ml : m < kq.2.length := List.mem_range.mp hm
      obtain ⟨q1, q2, q3⟩ := ok.q kq hk
      have hp : kq.2[m]? = some kq.2[m] := List.getElem?_eq_getElem ml
      have po := q3 _ (List.mem_of_getElem? hp)
      have ht2 := sK _ _ ht
      refine ⟨rfl, _, rfl, _, rfl, x, CS, dx, _, .ref pa, rfl, sK _ _ exJ, SC.cls, SC.parts, rfl, _, rfl, _, rfl, x, t, dx, _, L, j, m, kq, kq.2[m], rfl, sK _ _ exJ, shJ.same sK, ok, ht2, hj, hp, fun u eu => ?_⟩
      refine ⟨pa, u, L.parts, kq.2[m], rfl, tpJ.same sK, eu, po.sub, p4, Nat.le_trans po.len p4, ok.pn, po.2, fun HL sL => ?_⟩
      have eL := sL _ _ eK
      refine ⟨kvs, [.inr kq.1, .inl (m : Int)], t, rfl, eL, sL _ _ ht2, by rw [sizeLine_eq]; omega, _, upd_same, ?_, fun i' s hi' hs' => ?_, fun b o e => ?_⟩
      · have := length_putK kvs [.inr kq.1, .inl (m : Int)] (.int ((toN (vecP L.parts kq.2[m]) : Nat) : Int))
        omega
      · have pe : pieceOf L (kq.1, m) = kq.2[m] := by
          obtain ⟨j2, k2, hj2, e2, h2⟩ := piece_of ok (List.mem_of_getElem? hs)
          have k2e : k2 = kq := nodup_fst ok.kn (List.mem_of_getElem? hj2) hk e2
          rw [k2e, hp] at h2
          exact (Option.some.inj h2).symm
        have vp := valV_put kvs (keyS (kq.1, m)) (keyS s) (.int ((toN (vecP L.parts kq.2[m]) : Nat) : Int))
        refine vp.trans ?_
        by_cases q : keyS s = keyS (kq.1, m)
        · rw [if_pos q, keyS_inj q]
          unfold codeS
          rw [pe]
        · rw [if_neg q]
          refine kvv i' s ?_ hs'
          rcases Nat.lt_or_eq_of_le (Nat.le_of_lt_succ hi') with l | l
          · exact l
          · rw [l, hs] at hs'
            exact absurd (congrArg keyS (Option.some.inj hs')).symm q
      · rw [upd_ne (ne_of_none e nD5)]
        exact sL _ _ (sK _ _ e)
    rintro HK ⟨kvs, eK, kvl, kvv, sK⟩
    have exK := sK _ _ exJ
    refine ⟨_, rfl, x, CS, dx, _, rfl, exK, SC.cls, SC.codes, by show 5 < 1000; decide, ?_⟩
    have kbL : KeepB x HK (upd HK x (.ins CS dx (putF "codes" (.ref D5) [("text", .str (textL L)), ("parts", .ref pa), ("circle", .ref c), ("pieces", .ref q), ("spots", .ref p)]))) := KeepB.upd
    have exL : upd HK x (.ins CS dx (putF "codes" (.ref D5) [("text", .str (textL L)), ("parts", .ref pa), ("circle", .ref c), ("pieces", .ref q), ("spots", .ref p)])) x = some (.ins CS dx [("text", .str (textL L)), ("parts", .ref pa), ("circle", .ref c), ("pieces", .ref q), ("spots", .ref p), ("codes", .ref D5)]) := upd_same
    generalize upd HK x (.ins CS dx (putF "codes" (.ref D5) [("text", .str (textL L)), ("parts", .ref pa), ("circle", .ref c), ("pieces", .ref q), ("spots", .ref p)])) = HL at kbL exL ⊢
    have tL := tups_kb kbL exK
    have tpK := tpJ.same sK
    refine k HL _ (fun b o nb e => ?_) exL ⟨⟨pa, rfl, tpK.keepB kbL (tpK.ne exK)⟩, ⟨c, rfl, (caJ.same sK).keepB kbL exK ncx⟩, ⟨q, rfl, (pcJ.same sK).tups tL⟩⟩ rfl ⟨p, ss, rfl, tL _ _ (sK _ _ epJ), Paired.mapP ppJ fun v s ⟨t, e, h⟩ => ⟨t, e, tL _ _ (sK _ _ h)⟩, D5, kvs, rfl, kbL _ _ (fun z => by rw [z, exK] at eK; cases eK) eK, fun s hs => ?_⟩
    rotate_left
    · obtain ⟨i', hi'⟩ := List.mem_iff_getElem?.mp hs
      refine kvv i' s ?_ hi'
      have := (List.getElem?_eq_some_iff.mp hi').1
      have := ppJ.length
      omega
    exact kbL b o nb (sK _ _ (kbJ b o nb (sI _ _ (kbG b o nb (sq2 _ _ (k6B b o nb (k36 b o nb (sH _ _ e))))))))
end
end K6
set_option Elab.async false
set_option linter.all false
set_option maxHeartbeats 4000000
/-! Part Y: vectors as texts of 0 and 1. -/
namespace Lk
open PySem
def bC (b : Bool) : Nat := if b then 49 else 48
def stv (v : Vec) : Str := ⟨(v.map bC).toArray⟩
theorem tl_stv (v : Vec) : TL.tl (stv v) = v.map bC := TL.tl_mk _
theorem bC_inj {a b : Bool} (h : bC a = bC b) : a = b := by
  cases a <;> cases b <;> simp [bC] at h ⊢
theorem map_bC_inj : ∀ {a b : Vec}, a.map bC = b.map bC → a = b
  | [], [], _ => rfl
  | [], _ :: _, h => by cases h
  | _ :: _, [], h => by cases h
  | a :: as, b :: bs, h => by
    obtain ⟨h1, h2⟩ := List.cons.inj (show bC a :: as.map bC = bC b :: bs.map bC from h)
    rw [bC_inj h1, map_bC_inj h2]
theorem stv_inj {a b : Vec} (h : stv a = stv b) : a = b := by
  have := congrArg TL.tl h
  rw [tl_stv, tl_stv] at this
  exact map_bC_inj this
theorem stv_dec (a b : Vec) : decide (stv a = stv b) = decide (a = b) := by
  by_cases h : a = b
  · rw [h]
    simp
  · have : ¬ stv a = stv b := fun e => h (stv_inj e)
    simp [h, this]
theorem stv_len (v : Vec) : (stv v).length = v.length := by
  show (v.map bC).toArray.size = _
  simp
theorem stv_app (a b : Vec) : stv (a ++ b) = stv a ++ stv b := TL.ext_tl (by rw [TL.tl_append, tl_stv, tl_stv, tl_stv, List.map_append])
theorem stv_f : stv [false] = "0" := by decide +kernel
theorem stv_t : stv [true] = "1" := by decide +kernel
theorem stv_nil : stv [] = "" := by decide +kernel
/-- a text of 0 and 1 is one -/
theorem stv_of {z : Str} (h : ∀ c ∈ TL.tl z, c = 48 ∨ c = 49) : ∃ v, z = stv v := by
  refine ⟨(TL.tl z).map fun c => decide (c = 49), TL.ext_tl ?_⟩
  rw [tl_stv, List.map_map]
  symm
  have : ∀ c ∈ TL.tl z, (bC ∘ fun c => decide (c = 49)) c = id c := fun c hc => by
    rcases h c hc with rfl | rfl <;> rfl
  rw [List.map_congr_left this, List.map_id]
theorem stv_bits (v : Vec) : ∀ c ∈ TL.tl (stv v), c = 48 ∨ c = 49 := fun c hc => by
  rw [tl_stv] at hc
  obtain ⟨b, _, rfl⟩ := List.mem_map.mp hc
  cases b <;> simp [bC]
/-! ### all of them, in the program's order -/
def vL : Nat → List Vec
  | 0 => [[]]
  | n + 1 => (vL n).flatMap fun r => [r ++ [false], r ++ [true]]
theorem vL_len : ∀ n, (vL n).length = 2 ^ n
  | 0 => rfl
  | n + 1 => by
    have ih := vL_len n
    have : ∀ xs : List Vec, (xs.flatMap fun r => [r ++ [false], r ++ [true]]).length = 2 * xs.length := fun xs => by
      induction xs with
      | nil => rfl
      | cons x xs h =>
        rw [List.flatMap_cons, List.length_append, h]
        simp only [List.length_cons, List.length_nil]
        omega
    show ((vL n).flatMap fun r => [r ++ [false], r ++ [true]]).length = _
    rw [this, ih, Nat.pow_succ, Nat.mul_comm]
theorem mem_vL : ∀ {n : Nat} {v : Vec}, v ∈ vL n ↔ v.length = n
  | 0, v => by simp [vL]
  | n + 1, v => by
    show v ∈ (vL n).flatMap _ ↔ _
    rw [List.mem_flatMap]
    constructor
    · rintro ⟨r, hr, h⟩
      have rl := mem_vL.mp hr
      simp only [List.mem_cons, List.not_mem_nil, or_false] at h
      rcases h with rfl | rfl <;> simp [rl]
    · intro h
      rcases List.eq_nil_or_concat v with e | ⟨r, b, e⟩
      · rw [e] at h
        cases h
      · rw [List.concat_eq_append] at e
        subst e
        refine ⟨r, mem_vL.mpr (by simpa using h), ?_⟩
        cases b <;> simp
theorem nodup_vL : ∀ n, (vL n).Nodup
  | 0 => by simp [vL]
  | n + 1 => by
    have ih := nodup_vL n
    have : ∀ xs : List Vec, xs.Nodup → (xs.flatMap fun r => [r ++ [false], r ++ [true]]).Nodup := fun xs => by
      induction xs with
      | nil => intro _; simp
      | cons x xs h =>
        intro nd
        have n2 := List.nodup_cons.mp nd
        rw [List.flatMap_cons, List.nodup_append]
        refine ⟨?_, h n2.2, fun a ha b hb e => ?_⟩
        · simp
        · obtain ⟨r, hr, hb⟩ := List.mem_flatMap.mp hb
          have : r ≠ x := fun z => n2.1 (z ▸ hr)
          subst e
          simp only [List.mem_cons, List.not_mem_nil, or_false] at ha hb
          rcases ha with rfl | rfl <;> rcases hb with e | e
          all_goals
            have e2 := List.append_inj' e rfl
            exact this e2.1.symm
    exact this _ ih
theorem vL_perm (n : Nat) : (vL n).Perm (allV n) := (List.perm_ext_iff_of_nodup (nodup_vL n) (nodup_allV n)).mpr fun v => by rw [mem_vL, mem_allV]
/-- the law's way to them -/
theorem vL_step (xs : List Vec) : (xs.map (· ++ [false]) ++ xs.map (· ++ [true])).Perm (xs.flatMap fun r => [r ++ [false], r ++ [true]]) := by
  induction xs with
  | nil => exact List.Perm.refl _
  | cons x xs ih =>
    rw [List.flatMap_cons]
    show ((x ++ [false]) :: (xs.map (· ++ [false]) ++ ((x ++ [true]) :: xs.map (· ++ [true])))).Perm ((x ++ [false]) :: (x ++ [true]) :: _)
    refine List.Perm.cons _ ?_
    exact List.perm_middle.trans (List.Perm.cons _ ih)
theorem flat_perm {xs ys : List Vec} (h : xs.Perm ys) : (xs.flatMap fun r => [r ++ [false], r ++ [true]]).Perm (ys.flatMap fun r => [r ++ [false], r ++ [true]]) := h.flatMap_right _
theorem stvs_step {n : Nat} {zs : List Str} (h : zs.Perm ((vL n).map stv)) : (zs.map (fun z : Str => z ++ ("0" : Str)) ++ zs.map (fun z : Str => z ++ ("1" : Str))).Perm ((vL (n + 1)).map stv) := by
  have e0 : ∀ y : Vec, ∀ t : Str, stv y = t → ((vL n).map stv).map (fun z : Str => z ++ t) = ((vL n).map (· ++ y)).map stv := fun y t e => by
    rw [List.map_map, List.map_map]
    exact List.map_congr_left fun v _ => by
      show stv v ++ t = stv (v ++ y)
      rw [stv_app, e]
  have h0 := h.map (fun z : Str => z ++ ("0" : Str))
  have h1 := h.map (fun z : Str => z ++ ("1" : Str))
  rw [e0 _ _ stv_f] at h0
  rw [e0 _ _ stv_t] at h1
  refine (h0.append h1).trans ?_
  rw [← List.map_append]
  exact (vL_step (vL n)).map stv
/-! ### how many ones -/
theorem dot_ones (ps p : List Str) : ∀ {v : Vec}, ps.length = v.length → dot (vecP ps p) v = decide (((ps.zip (v.map bC)).filter fun pc => decide (pc.2 = 49 ∧ pc.1 ∈ p)).length % 2 = 1) := by
  induction ps with
  | nil =>
    intro v h
    simp [vecP, dot]
  | cons x ps ih =>
    intro v h
    match v, h with
    | b :: v, h =>
      have ih := ih (v := v) (Nat.succ.inj h)
      show xor (decide (x ∈ p) && b) (dot (vecP ps p) v) = _
      rw [ih]
      show _ = decide ((((x, bC b) :: ps.zip (v.map bC)).filter fun pc => decide (pc.2 = 49 ∧ pc.1 ∈ p)).length % 2 = 1)
      by_cases m : x ∈ p
      · cases b
        · rw [List.filter_cons_of_neg (by simp [bC])]
          simp
        · rw [List.filter_cons_of_pos (by simp [bC, m]), List.length_cons]
          generalize ((ps.zip (v.map bC)).filter fun pc => decide (pc.2 = 49 ∧ pc.1 ∈ p)).length = k
          have h2 : k % 2 = 0 ∨ k % 2 = 1 := by omega
          rcases h2 with h2 | h2
          · have : (k + 1) % 2 = 1 := by omega
            simp [m, h2, this]
          · have : (k + 1) % 2 = 0 := by omega
            simp [m, h2, this]
      · rw [List.filter_cons_of_neg (by simp [m])]
        simp [m]
end Lk
set_option Elab.async false
set_option linter.all false
set_option maxRecDepth 100000
set_option maxHeartbeats 4000000
set_option pp.maxSteps 1200
set_option pp.deepTerms false
namespace K6
open PySem PySem.Spec PyProof.Rows L2 Lk
abbrev sRecords : Stmt := top 80
section
variable {P : Program} {w : World} {K : PySem.W.Frag} {mg : Str → Option Value} {base : Heap} {f : Addr} {fd : FuncData}
/-! ### _law_records -/
def Bits (z : Str) : Prop := ∀ c ∈ TL.tl z, c = 48 ∨ c = 49
/-- all records of a lore -/
def recsL (L : Lore) : List Str := (vL L.parts.length).map stv
def rAddStr : R2 := fun x y H Q => ∃ i j, x = .str i ∧ y = .str j ∧ i.length + j.length ≤ sizeLine ∧ Q (.str (i ++ j)) H
def two01 (r : Vec) : List Vec := [r ++ [false], r ++ [true]]
theorem two_len : ∀ xs : List Vec, (xs.flatMap two01).length = 2 * xs.length := fun xs => by
  induction xs with
  | nil => rfl
  | cons x xs ih =>
    rw [List.flatMap_cons, List.length_append, ih, List.length_cons]
    show 2 + _ = _
    omega
def spRecords : Sp := fun vs H Q _ => ∃ (lo : Addr) (L : Lore), vs = [.ref lo] ∧ LoreAt H lo L ∧ L.parts.length ≤ 4 ∧
  ∀ (p : Addr) (H' : Hp), Same H H' → H p = none → H' p = some (.lst ((recsL L).map V.str)) → Q (.ref p) H'
theorem scRecords : FnScope ["lore", "found", "part", "longer", "record", "mark"] ["lore"] (defScope sRecords) := ⟨rfl, rfl, rfl, by decide +kernel, rfl, by decide +kernel, by decide +kernel⟩
theorem ok_records (F : Fun K "_law_records" "_law_records" sRecords f fd) : FnOk P w K mg base CX0 1 f fd ["lore"] spRecords := by
  refine F.ok scRecords (fun vs H Q E h => ?_) (fun cdv A outer s H vs Q E hr h => ?_)
  · obtain ⟨lo, L, rfl, _⟩ := h
    rfl
  · obtain ⟨lo, L, rfl, ⟨pa, nm, pt, rows, e1, e2, e3, e4, e5⟩, p4, k⟩ := h
    have nd := scRecords.nd
    have hu := hu_of hr
    refine ⟨_, pss_cons (ps_set (i := 1) nd rfl (.inl rfl) (pe_lst (pa_cons pe_str pa_nil)))
      (pss_cons (ps_for PassesOwn.never rfl (pi_tup (pe_dget hu (pv 0) pe_str (fun _ _ => rfl))) (pg_name (i := 2) nd rfl (.inl rfl))
          (pss_cons (ps_set (i := 3) nd rfl (.inl rfl) (pe_lst pa_nil))
          (pss_cons (ps_for PassesOwn.never rfl (pi_list (pv 1)) (pg_name (i := 4) nd rfl (.inr rfl))
            (pss_one (ps_expr (pe_bm PySem.F.plainAttrs_list PySem.F.slot_list_extend PySem.F.type_list_extend mt_extend (pv 3) (pa_cons
              (pe_lc (own := [("mark", 5)]) (g := gName 5) (tt := tYes) (te := tOp rAddStr (tVar 4) (tVar 5)) rfl nd (pi_str pe_str) (blkOk_by (N := ["lore", "found", "part", "longer", "record", "mark"]) (sc := defScope sRecords) (by decide +kernel))
                (fun _ _ _ _ _ => pg_name (i := 5) nd rfl (.inl rfl)) (fun _ _ _ _ _ => pts_nil) (fun _ _ _ _ _ => pe_op op_add_str (pv 4) (pv 5))) pa_nil)))))
          (pss_one (ps_set (i := 1) nd rfl (.inl rfl) (pv 3))))))
        (pss_one (ps_ret (pv 1)))), ?_⟩
    refine ⟨few_ok rfl, fun l nl => ?_⟩
    have s1 : Same H (upd H l (.lst [.str ""])) := same_new nl
    have el : upd H l (.lst [.str ""]) l = some (.lst [.str ""]) := upd_same
    generalize upd H l (.lst [.str ""]) = H1 at s1 el
    refine ⟨_, rfl, lo, _, rfl, (dget3 (e1.same s1)).1, pa, rfl, ⟨_, SqT.of (s1 _ _ e2)⟩, for_tup (xs := L.parts.map V.str) (fun i σ H' => ∃ (fl : Addr) (u v x y : Option V), σ = [some (.ref lo), some (.ref fl), u, v, x, y] ∧ H fl = none ∧ H' fl = some (.lst (((vL i).map stv).map V.str)) ∧ Same H H') ?_ ?_ ?_ ?_⟩
    · exact ⟨l, none, none, none, none, rfl, nl, by rw [el, ← stv_nil]; rfl, s1⟩
    · rintro i σ H' _ ⟨_, _, _, _, _, _, _, _, ss⟩
      exact SqT.of (ss _ _ e2)
    · rintro i x σ H' hx ⟨fl, u, v, z, y, rfl, nf, ef, ss⟩
      have il : i < L.parts.length := by
        have := (List.getElem?_eq_some_iff.mp hx).1
        rw [List.length_map] at this
        exact this
      have zl : (vL i).length ≤ 8 := by
        rw [vL_len]
        exact Nat.le_trans (Nat.pow_le_pow_right (by decide) (show i ≤ 3 by omega)) (by decide)
      have vz : ((vL i).map stv).map V.str = (vL i).map fun v => V.str (stv v) := by rw [List.map_map]; rfl
      rw [vz] at ef
      refine ⟨few_ok rfl, fun D nD => ?_⟩
      have s2 : Same H' (upd H' D (.lst [])) := same_new nD
      have eD0 : upd H' D (.lst []) D = some (.lst []) := upd_same
      generalize upd H' D (.lst []) = H2 at s2 eD0
      have ef2 := s2 _ _ ef
      have nDH : H D = none := ss.free nD
      have nfD : fl ≠ D := fun z => by rw [z, nD] at ef; cases ef
      refine ⟨_, rfl, fl, rfl, ⟨_, SqL.of ef2⟩, for_list (xs := (vL i).map fun v => V.str (stv v)) (fun j σ H3 => ∃ (u v y : Option V), σ = [some (.ref lo), some (.ref fl), u, some (.ref D), v, y] ∧ H3 D = some (.lst ((((vL i).take j).flatMap two01).map fun v => V.str (stv v))) ∧ KeepB D H' H3) ?_ ?_ ?_ ?_⟩
      · exact ⟨_, _, _, rfl, eD0, .of s2⟩
      · rintro j σ H3 _ ⟨_, _, _, _, _, kb⟩
        exact SqL.of (kb _ _ nfD ef)
      · rintro j q σ H3 hq ⟨u, v, y, rfl, eD, kb⟩
        obtain ⟨r, hr⟩ : ∃ r, (vL i)[j]? = some r := by
          rw [List.getElem?_map] at hq
          cases e : (vL i)[j]? with
          | none => rw [e] at hq; cases hq
          | some r => exact ⟨r, rfl⟩
        obtain rfl : V.str (stv r) = q := by
          rw [List.getElem?_map, hr] at hq
          exact Option.some.inj hq
        have rl := mem_vL.mp (List.mem_of_getElem? hr)
        refine ⟨_, rfl, .inl ⟨rfl, _, SqL.of eD⟩, "01", rfl, ?_⟩
        intro D2 nD2
        refine lc_fm (walk_str (z := "01")) (("01" : Str).cps.toList) (fun c => some (V.str (stv r ++ ⟨#[c]⟩))) rfl (by decide) nD2 (fun _ _ => trivial) ?_ ?_
        · rintro m q c H4 H4' R Rn hc s4 ⟨rfl, c', hc', rfl⟩ k1 k2
          obtain rfl : c = c' := Option.some.inj (hc.symm.trans (by rw [Array.getElem?_toList]; exact hc'))
          refine ⟨rfl, _, rfl, _, rfl, _, _, rfl, rfl, ?_, k1 _ _ rfl (Same.refl _)⟩
          rw [stv_len, sizeLine_eq]
          show r.length + 1 ≤ _
          omega
        · intro H4 s4 e4'
          have fe : (("01" : Str).cps.toList.filterMap fun c => some (V.str (stv r ++ ⟨#[c]⟩))) = (two01 r).map fun v => V.str (stv v) := by
            show [V.str (stv r ++ stv [false]), V.str (stv r ++ stv [true])] = _
            rw [← stv_app, ← stv_app]
            rfl
          rw [fe] at e4'
          have ll : (((vL i).take j).flatMap two01).length ≤ 100 := by
            rw [two_len, List.length_take]
            omega
          have eD4 := s4 _ _ eD
          refine ⟨D, D2, _, _, rfl, rfl, eD4, e4', ?_, ?_⟩
          · rw [List.length_map, List.length_map, sizeLine_eq]
            show _ + 2 ≤ _
            omega
          · refine ⟨_, _, _, rfl, ?_, fun b o nb e => ?_⟩
            · rw [upd_same, List.take_add_one, hr, List.flatMap_append, List.map_append]
              rfl
            · rw [upd_ne nb]
              exact s4 _ _ (kb _ _ nb e)
      · rintro σ H3 ⟨u, v, y, rfl, eD, kb⟩
        rw [List.length_map, List.take_length] at eD
        refine ⟨_, rfl, D, _, _, _, _, rfl, nDH, ?_, fun b o e => kb _ _ (ne_of_none e nDH) (ss _ _ e)⟩
        rw [eD, List.map_map]
        rfl
    · rintro σ H' ⟨fl, u, v, x, y, rfl, nf, ef, ss⟩
      rw [List.length_map] at ef
      exact ⟨_, rfl, k fl H' ss nf ef⟩
end
end K6
set_option Elab.async false
set_option linter.all false
set_option maxRecDepth 100000
set_option maxHeartbeats 4000000
set_option pp.maxSteps 1200
set_option pp.deepTerms false
namespace K6
open PySem PySem.Spec PyProof.Rows L2 Lk
abbrev sAreBits : Stmt := top 16
abbrev sIsRecord : Stmt := top 43
abbrev sRefRecord : Stmt := top 45
abbrev sRefKeeper : Stmt := top 44
abbrev sCircLen : Stmt := inClass (top 20) 1
abbrev sCircIn : Stmt := inClass (top 20) 2
abbrev sShelfLen : Stmt := inClass (top 31) 1
/-- an own method of that class, found and kept -/
structure MethC (K : PySem.W.Frag) (C : Addr) (m : Str) (f : Addr) : Prop where
  at_ : PySem.W.findIn K (.ref C) m = some (some (.ref f))
  fn : PySem.W.isFn K (.ref f) = true
section
variable {P : Program} {w : World} {K : PySem.W.Frag} {mg : Str → Option Value} {base : Heap} {f : Addr} {fd : FuncData}
/-- a shelf, as it stands -/
def ShAt (H : Hp) (C CS x : Addr) (L : Lore) : Prop := ∃ dx fs, H x = some (.ins CS dx fs) ∧ ShF H C L fs ∧ fs.lookup ("text" : Str) = some (V.str (textL L)) ∧ ShS H L fs
/-! ### are_bits, is_record, refuse_record: a record -/
def RecOk (L : Lore) (z : Str) : Prop := z.length = L.parts.length ∧ Bits z
def spAreBits : Sp := fun vs H Q _ => ∃ z : Str, vs = [.str z, .int z.length] ∧ Bits z ∧ z.length ≤ 100 ∧ ∀ H', Same H H' → Q (.bl true) H'
theorem scAreBits : FnScope ["value", "many", "sign"] ["value", "many"] (defScope sAreBits) := ⟨rfl, rfl, rfl, by decide +kernel, rfl, by decide +kernel, by decide +kernel⟩
theorem ok_areBits (F : Fun K "are_bits" "are_bits" sAreBits f fd) (T : Bl mg) (C : Cn mg) : FnOk P w K mg base CX0 1 f fd ["value", "many"] spAreBits := by
  refine F.ok scAreBits (fun vs H Q E h => ?_) (fun cdv A outer s H vs Q E hr h => ?_)
  · obtain ⟨z, rfl, _⟩ := h
    rfl
  · obtain ⟨z, rfl, zb, zl, k⟩ := h
    have nd := scAreBits.nd
    refine ⟨_, pss_one (ps_ret (pe_and (pe_callB call_isi (by rfl) T.isin boot_isinstance (pa_cons (pv 0) (pa_cons (pe_bltn (v := .ty "str") (by rfl) C.str rfl rfl) pa_nil))) (pe_and (pe_cmpR op_eq (pe_callB call_len_str (by rfl) T.len PySem.boot_len (pa_cons (pv 0) pa_nil)) (pv 1) (nomark _))
      (pe_one (pe_callB (cr_all rfl) (by rfl) T.all boot_all (pa_cons (pe_lc (own := [("sign", 2)]) (g := gName 2) (tt := tYes) (te := tOp (fun x y H Q => ∃ (c : Nat) (z : Str), x = .str ⟨#[c]⟩ ∧ y = .str z ∧ Q (.bl (decide (c ∈ z.cps.toList))) H) (tVar 2) (tC (.str "01"))) rfl nd (pi_str (pv 0)) (blkOk_by (N := ["value", "many", "sign"]) (sc := defScope sAreBits) (by decide +kernel))
          (fun _ _ _ _ _ => pg_name (i := 2) nd rfl (Or.inl rfl)) (fun _ _ _ _ _ => pts_nil) (fun _ _ _ _ _ => pe_cmpR op_in_sign (pv 2) pe_str rfl)) pa_nil)))))), ?_⟩
    refine ⟨_, rfl, _, _, _, _, true, rfl, .ty _, .base (.str _), by rfl, _, rfl, iteT ?_⟩
    refine ⟨_, rfl, z, rfl, by rw [sizeLine_eq]; omega, _, rfl, rfl, _, rfl, iteA (decide_eq_true rfl) ?_⟩
    have zz : z.cps.toList.length ≤ 100 := by simpa [Str.length] using zl
    refine ⟨_, rfl, z, rfl, str_lc (Q := fun x H1 => rAll K [x] H1 Q) (fun c => some (.bl (decide (c ∈ ("01" : Str).cps.toList)))) (by omega) ?_ ?_⟩
    · intro i c H1 R Rn hc s1 k1 k2
      exact ⟨rfl, _, rfl, c, "01", rfl, rfl, k1 _ _ rfl (Same.refl _)⟩
    · intro D H1 nD s1 e
      rw [fm_bl] at e
      refine ⟨D, _, rfl, SqL.of e, ?_⟩
      have : (z.cps.toList.map fun c => decide (c ∈ ("01" : Str).cps.toList)).all id = true := by
        rw [List.all_eq_true]
        intro b hb
        obtain ⟨c, hc, rfl⟩ := List.mem_map.mp hb
        refine decide_eq_true ?_
        rcases zb c hc with rfl | rfl
        · decide +kernel
        · decide +kernel
      rw [this]
      exact k _ s1
def spIsRecord (C CS : Addr) : Sp := fun vs H Q _ => ∃ (x : Addr) (L : Lore) (z : Str), vs = [.ref x, .str z] ∧ ShAt H C CS x L ∧ LoreOk L ∧ RecOk L z ∧ ∀ H', Same H H' → Q (.bl true) H'
theorem scIsRecord : FnScope ["shelf", "value"] ["shelf", "value"] (defScope sIsRecord) := ⟨rfl, rfl, rfl, by decide +kernel, rfl, by decide +kernel, by decide +kernel⟩
theorem ok_isRecord {C CS fS f1 : Addr} {fd1 : FuncData} (F : Fun K "is_record" "is_record" sIsRecord f fd) (T : Bl mg) (Cc : Cn mg) (SC : ShC K CS fS) (F1 : Fun K "are_bits" "are_bits" sAreBits f1 fd1) (b1 : Binds K fd1 ["value", "many"] []) (m1 : mg "are_bits" = some (.ref f1)) :
    FnOk P w K mg base CX0 2 f fd ["shelf", "value"] (spIsRecord C CS) := by
  have G1 : FnOk P w K mg base CX0 1 f1 fd1 ["value", "many"] spAreBits := ok_areBits F1 T Cc
  refine F.ok scIsRecord (fun vs H Q E h => ?_) (fun cdv A outer s H vs Q E hr h => ?_)
  · obtain ⟨x, L, z, rfl, _⟩ := h
    rfl
  · obtain ⟨x, L, z, rfl, ⟨dx, fs, hx, sf, _⟩, ok, ⟨zl, zb⟩, k⟩ := h
    obtain ⟨pa, lp, tpa⟩ := sf.parts
    have p4 := ok.p4
    refine ⟨_, pss_one (ps_ret (pe_call G1 hr (by rfl) m1 F1.kp b1 .nil pass0 (pa_cons (pv 1) (pa_cons (pe_callB call_len_seq (by rfl) T.len PySem.boot_len (pa_cons (pe_fld (pv 0) rfl) pa_nil)) pa_nil)))), ?_⟩
    refine ⟨_, rfl, _, rfl, x, CS, dx, fs, .ref pa, rfl, hx, SC.cls, SC.parts, lp, pa, _, rfl, .inr tpa.sq, z, ?_, zb, by omega, k⟩
    rw [List.length_map, ← zl]
    rfl
def spRefRecord (C CS : Addr) : Sp := fun vs H Q _ => ∃ (x : Addr) (L : Lore) (z : Str), vs = [.ref x, .str z] ∧ ShAt H C CS x L ∧ LoreOk L ∧ RecOk L z ∧ ∀ H', Same H H' → Q .non H'
theorem scRefRecord : FnScope ["shelf", "value"] ["shelf", "value"] (defScope sRefRecord) := ⟨rfl, rfl, rfl, by decide +kernel, rfl, by decide +kernel, by decide +kernel⟩
theorem ok_refRecord {C CS fS f1 f2 : Addr} {fd1 fd2 : FuncData} (F : Fun K "refuse_record" "refuse_record" sRefRecord f fd) (T : Bl mg) (Cc : Cn mg) (SC : ShC K CS fS) (F1 : Fun K "are_bits" "are_bits" sAreBits f1 fd1) (b1 : Binds K fd1 ["value", "many"] []) (m1 : mg "are_bits" = some (.ref f1))
    (F2 : Fun K "is_record" "is_record" sIsRecord f2 fd2) (b2 : Binds K fd2 ["shelf", "value"] []) (m2 : mg "is_record" = some (.ref f2)) : FnOk P w K mg base CX0 3 f fd ["shelf", "value"] (spRefRecord C CS) := by
  have G2 : FnOk P w K mg base CX0 2 f2 fd2 ["shelf", "value"] (spIsRecord C CS) := ok_isRecord F2 T Cc SC F1 b1 m1
  refine F.ok scRefRecord (fun vs H Q E h => ?_) (fun cdv A outer s H vs Q E hr h => ?_)
  · obtain ⟨x, L, z, rfl, _⟩ := h
    rfl
  · obtain ⟨x, L, z, rfl, sh, ok, rc, k⟩ := h
    refine ⟨_, pss_one (ps_if (pt_not (pt_val (pe_call G2 hr (by rfl) m2 F2.kp b2 .nil pass0 (pa_cons (pv 0) (pa_cons (pv 1) pa_nil))))) pss_no pss_nil), ?_⟩
    exact ⟨_, rfl, _, rfl, x, L, z, rfl, sh, ok, rc, fun H' s' => ⟨_, rfl, iteB rfl (k H' s')⟩⟩
/-! ### Circle.__contains__, refuse_keeper -/
def spCircIn (C : Addr) : Sp := fun vs H Q _ => ∃ (c : Addr) (zs : List Str) (z : Str), vs = [.ref c, .str z] ∧ CircAt H C c zs ∧ Q (.bl (decide (z ∈ zs))) H
theorem scCircIn : FnScope ["self", "value"] ["self", "value"] (defScope sCircIn) := ⟨rfl, rfl, rfl, by decide +kernel, rfl, by decide +kernel, by decide +kernel⟩
theorem ok_circIn {C fC : Addr} (F : Fun K "__contains__" "Circle.__contains__" sCircIn f fd) (CC : CircC K C fC) : FnOk P w K mg base CX0 1 f fd ["self", "value"] (spCircIn C) := by
  refine F.ok scCircIn (fun vs H Q E h => ?_) (fun cdv A outer s H vs Q E hr h => ?_)
  · obtain ⟨c, zs, z, rfl, _⟩ := h
    rfl
  · obtain ⟨c, zs, z, rfl, ⟨dx, nm, ec, tn⟩, k⟩ := h
    refine ⟨_, pss_one (ps_ret (pe_cmpR op_in_seq (pv 1) (pe_fld (pv 0) rfl) rfl)), ?_⟩
    refine ⟨_, rfl, _, rfl, c, C, dx, _, .ref nm, rfl, ec, CC.cls, CC.nm, rfl, nm, _, rfl, .inr tn.sq, rfl, flat_strs _, ?_⟩
    simp only [Bool.false_eq_true, if_false]
    rw [inV_str]
    exact k
def spRefKeeper (C CS : Addr) : Sp := fun vs H Q _ => ∃ (x : Addr) (L : Lore) (kq : KP), vs = [.ref x, .str kq.1] ∧ ShAt H C CS x L ∧ kq ∈ L.kps ∧ Q .non H
theorem scRefKeeper : FnScope ["shelf", "value"] ["shelf", "value"] (defScope sRefKeeper) := ⟨rfl, rfl, rfl, by decide +kernel, rfl, by decide +kernel, by decide +kernel⟩
theorem ok_refKeeper {C CS fC fS fI : Addr} {fdI : FuncData} (F : Fun K "refuse_keeper" "refuse_keeper" sRefKeeper f fd) (CC : CircC K C fC) (SC : ShC K CS fS) (M : MethC K C "__contains__" fI) (FI : Fun K "__contains__" "Circle.__contains__" sCircIn fI fdI) (bI : Binds K fdI ["self", "value"] []) :
    FnOk P w K mg base CX0 2 f fd ["shelf", "value"] (spRefKeeper C CS) := by
  have GI : FnOk P w K mg base CX0 1 fI fdI ["self", "value"] (spCircIn C) := ok_circIn FI CC
  refine F.ok scRefKeeper (fun vs H Q E h => ?_) (fun cdv A outer s H vs Q E hr h => ?_)
  · obtain ⟨x, L, kq, rfl, _⟩ := h
    rfl
  · obtain ⟨x, L, kq, rfl, ⟨dx, fs, hx, sf, _⟩, km, k⟩ := h
    obtain ⟨c, lc, ca⟩ := sf.circle
    obtain ⟨cdx, nm, ec, tn⟩ := id ca
    refine ⟨_, pss_one (ps_if (pt_cmpR (op_notInI GI M.at_ M.fn bI hr) (pv 1) (pe_fld (pv 0) rfl) rfl) pss_no pss_nil), ?_⟩
    refine ⟨_, rfl, _, rfl, x, CS, dx, fs, .ref c, rfl, hx, SC.cls, SC.circle, lc, c, cdx, _, rfl, ec, c, _, kq.1, rfl, ca, _, rfl, _, rfl, iteB ?_ k⟩
    have : kq.1 ∈ L.kps.map (·.1) := List.mem_map.mpr ⟨kq, km, rfl⟩
    simpa using this
end
end K6
set_option Elab.async false
set_option linter.all false
set_option maxRecDepth 100000
set_option maxHeartbeats 4000000
set_option pp.maxSteps 1200
set_option pp.deepTerms false
namespace K6
open PySem PySem.Spec PyProof.Rows L2 Lk
abbrev sShelfEq : Stmt := inClass (top 31) 2
section
variable {P : Program} {w : World} {K : PySem.W.Frag} {mg : Str → Option Value} {base : Heap} {f : Addr} {fd : FuncData}
/-- what isinstance is asked of the class -/
structure IsiC (K : PySem.W.Frag) (C : Addr) : Prop where
  ty : ∀ (H : Hp) (a dx : Addr) (fs : List (Str × V)), H a = some (.ins C dx fs) → TyX K H (.ref a) (.ref C)
  own : PySem.W.kitOne K (.ref C) (.ref C) = some true
/-! ### len(shelf), shelf == .. -/
def spShelfLen (C CS : Addr) : Sp := fun vs H Q _ => ∃ (x : Addr) (L : Lore), vs = [.ref x] ∧ ShAt H C CS x L ∧ Q (.int (spotsOf L.kps).length) H
theorem scShelfLen : FnScope ["self"] ["self"] (defScope sShelfLen) := ⟨rfl, rfl, rfl, by decide +kernel, rfl, by decide +kernel, by decide +kernel⟩
theorem ok_shelfLen {C CS fS : Addr} (F : Fun K "__len__" "Shelf.__len__" sShelfLen f fd) (T : Bl mg) (SC : ShC K CS fS) : FnOk P w K mg base CX0 1 f fd ["self"] (spShelfLen C CS) := by
  refine F.ok scShelfLen (fun vs H Q E h => ?_) (fun cdv A outer s H vs Q E hr h => ?_)
  · obtain ⟨x, L, rfl, _⟩ := h
    rfl
  · obtain ⟨x, L, rfl, ⟨dx, fs, hx, sf, _, p, ts, lp, ep, pr, _⟩, k⟩ := h
    refine ⟨_, pss_one (ps_ret (pe_callB call_len_seq (by rfl) T.len PySem.boot_len (pa_cons (pe_fld (pv 0) rfl) pa_nil))), ?_⟩
    refine ⟨_, rfl, x, CS, dx, fs, .ref p, rfl, hx, SC.cls, SC.spots, lp, p, _, rfl, .inr (SqT.of ep), ?_⟩
    rw [pr.length]
    exact k
def spShelfEq (K : PySem.W.Frag) (CS : Addr) : Sp := fun vs H Q _ => ∃ (x dx : Addr) (fs : List (Str × V)) (t : Str) (y : V), vs = [.ref x, y] ∧ H x = some (.ins CS dx fs) ∧ fs.lookup ("text" : Str) = some (V.str t) ∧
  ((∃ x2 dx2 fs2 t2, y = .ref x2 ∧ H x2 = some (.ins CS dx2 fs2) ∧ fs2.lookup ("text" : Str) = some (V.str t2) ∧ Q (.bl (decide (t = t2))) H) ∨ (∃ ty, TyX K H y ty ∧ PySem.W.kitOne K ty (.ref CS) = some false ∧ Q (.bl false) H))
theorem scShelfEq : FnScope ["self", "other"] ["self", "other"] (defScope sShelfEq) := ⟨rfl, rfl, rfl, by decide +kernel, rfl, by decide +kernel, by decide +kernel⟩
theorem ok_shelfEq {CS fS : Addr} (F : Fun K "__eq__" "Shelf.__eq__" sShelfEq f fd) (T : Bl mg) (SC : ShC K CS fS) (IC : IsiC K CS) (mS : mg "Shelf" = some (.ref CS)) : FnOk P w K mg base CX0 1 f fd ["self", "other"] (spShelfEq K CS) := by
  refine F.ok scShelfEq (fun vs H Q E h => ?_) (fun cdv A outer s H vs Q E hr h => ?_)
  · obtain ⟨x, dx, fs, t, y, rfl, _⟩ := h
    rfl
  · obtain ⟨x, dx, fs, t, y, rfl, hx, lt, k⟩ := h
    refine ⟨_, pss_one (ps_ret (pe_and (pe_callB call_isi (by rfl) T.isin boot_isinstance (pa_cons (pv 1) (pa_cons (pe_glob (v := .ref CS) (by rfl) mS rfl) pa_nil))) (pe_one (pe_cmpR op_eq (pe_fld (pv 0) rfl) (pe_fld (pv 1) rfl) (nomark _))))), ?_⟩
    rcases k with ⟨x2, dx2, fs2, t2, rfl, hx2, lt2, k⟩ | ⟨ty, hty, hk, k⟩
    · refine ⟨_, rfl, _, _, _, _, true, rfl, .own _, IC.ty H x2 dx2 fs2 hx2, IC.own, _, rfl, iteT ?_⟩
      refine ⟨_, rfl, x, CS, dx, fs, .str t, rfl, hx, SC.cls, SC.text, lt, _, rfl, x2, CS, dx2, fs2, .str t2, rfl, hx2, SC.cls, SC.text, lt2, rfl, ?_⟩
      have e : decide (V.str t = V.str t2) = decide (t = t2) := by simp
      rw [e]
      exact k
    · exact ⟨_, rfl, _, _, _, _, false, rfl, .own _, hty, hk, _, rfl, iteB rfl k⟩
end
end K6
set_option Elab.async false
set_option linter.all false
set_option maxRecDepth 100000
set_option maxHeartbeats 4000000
set_option pp.maxSteps 1200
set_option pp.deepTerms false
namespace K6
open PySem PySem.Spec PyProof.Rows L2 Lk
section
variable {P : Program} {w : World} {K : PySem.W.Frag} {mg : Str → Option Value} {base : Heap} {f : Addr} {fd : FuncData}
/-! ### _law_shelf -/
def spShelfOf (C CS : Addr) : Sp := fun vs H Q _ => ∃ (lo : Addr) (L : Lore), vs = [.ref lo] ∧ LoreAt H lo L ∧ LoreOk L ∧ ∀ x H', Same H H' → H x = none → ShAt H' C CS x L → Q (.ref x) H'
end
end K6
set_option Elab.async false
set_option linter.all false
set_option maxRecDepth 100000
set_option maxHeartbeats 4000000
/-! Part Z: zip of two things of which each is a list, a tuple or a text. -/
namespace Lk
open PySem PySem.Spec PyProof.Rows L2
/-- what a zip walks -/
inductive Src where
  | tup (a : Addr) | lst (a : Addr) | txt (z : Str)
def Src.v : Src → V
  | .tup a => .ref a
  | .lst a => .ref a
  | .txt z => .str z
def Src.addr : Src → Option Addr
  | .tup a => some a
  | .lst a => some a
  | .txt _ => none
def SrcAt (K : PySem.W.Frag) : Src → Hp → List V → Prop
  | .tup a, H, xs => SqT K H a xs
  | .lst a, H, xs => SqL K H a xs
  | .txt z, _, xs => xs = z.cps.toList.map fun c => V.str ⟨#[c]⟩
/-- its iterator at the i-th item -/
def ItrAt (it : Addr) (t : Tok) : Src → Nat → Heap → Prop
  | .tup a, i, h => h.IsTupleIter it a i
  | .lst a, i, h => h.IsListIter it a i
  | .txt z, i, h => h.IsStrIter it (strIterType z) z t i
theorem ItrAt.obj {it : Addr} {t : Tok} {i : Nat} {h : Heap} : ∀ {sr : Src}, ItrAt it t sr i h → ∃ o, h.get? it = some o ∧ ∀ v, o.data ≠ .cell v
  | .tup _, ⟨o, e, _, d⟩ => ⟨o, e, fun v q => by rw [d] at q; cases q⟩
  | .lst _, ⟨o, e, _, d⟩ => ⟨o, e, fun v q => by rw [d] at q; cases q⟩
  | .txt _, ⟨o, e, _, d⟩ => ⟨o, e, fun v q => by rw [d] at q; cases q⟩
theorem ItrAt.keep {it : Addr} {t : Tok} {i : Nat} {h h' : Heap} (k : ∀ o, h.get? it = some o → h'.get? it = some o) : ∀ {sr : Src}, ItrAt it t sr i h → ItrAt it t sr i h'
  | .tup _, ⟨o, e, r⟩ => ⟨o, k o e, r⟩
  | .lst _, ⟨o, e, r⟩ => ⟨o, k o e, r⟩
  | .txt _, ⟨o, e, r⟩ => ⟨o, k o e, r⟩
theorem SrcAt.one {X : Cx} {pins : List (Addr × Obj)} {σ : L2.St} {H : Hp} {s : Shared} (I : Inv X pins σ H s) : ∀ {sr : Src} {xs ys : List V}, SrcAt X.K sr H xs → SrcAt X.K sr H ys → xs = ys
  | .tup _, _, _, h, g => I.tuple_inj h g
  | .lst _, _, _, h, g => I.list_inj h g
  | .txt _, _, _, h, g => Eq.trans h (Eq.symm g)
theorem vals_back : ∀ {xs : List V} {us : List Value} {i : Nat} {u : Value}, Vals xs us → us[i]? = some u → ∃ x, xs[i]? = some x ∧ RelV x u
  | _, _, _, _, .nil, e => by simp at e
  | _, _, 0, _, .cons r _, e => by simp at e; subst e; exact ⟨_, rfl, r⟩
  | _, _, i + 1, u, .cons _ t, e => by
    obtain ⟨x, h1, h2⟩ := vals_back t (by simpa using e)
    exact ⟨x, by simpa using h1, h2⟩
/-- the items drawn, one after the other -/
theorem src_draws {X : Cx} {pins : List (Addr × Obj)} {σ : L2.St} {H : Hp} {s : Shared} {A : Around} (I : Inv X pins σ H s) (calm : A.handled = none) {it : Addr} {t : Tok} {i : Nat} : ∀ {sr : Src} {xs : List V}, SrcAt X.K sr H xs → ItrAt it t sr i s.heap → (∀ a, sr.addr = some a → a ≠ it) →
    ∃ (fp : List Addr) (Pv : Nat → Value → Prop) (Sv : Nat → Heap → Prop), Draws X.prog X.w A it fp xs.length Pv Sv ∧ Sv i s.heap ∧ (∀ j v, Pv j v → ∃ x, xs[j]? = some x ∧ RelV x v) ∧ (∀ j h, Sv j h → ItrAt it t sr j h) ∧ it ∈ fp ∧ ∀ b ∈ fp, b = it ∨ sr.addr = some b
  | .tup a, xs, at_, st, ne => by
    obtain ⟨its, rv, p, _⟩ := I.tuple at_
    have d := Draws.tuple (prog := X.prog) (w := X.w) calm it a (ne a rfl) its.toArray
    rw [List.size_toArray, ← rv.length] at d
    refine ⟨_, _, _, d, ⟨st, p⟩, fun j v e => ?_, fun j h e => e.1, by simp, fun b hb => ?_⟩
    · exact vals_back rv (by simpa using e)
    · rcases List.mem_cons.mp hb with h | h
      · exact .inl h
      · exact .inr (by rw [List.mem_singleton.mp h]; rfl)
  | .lst a, xs, at_, st, ne => by
    obtain ⟨its, rv, p, _⟩ := I.list at_
    have d := Draws.list (prog := X.prog) (w := X.w) calm it a (ne a rfl) its.toArray
    rw [List.size_toArray, ← rv.length] at d
    refine ⟨_, _, _, d, ⟨st, p.isList⟩, fun j v e => ?_, fun j h e => e.1, by simp, fun b hb => ?_⟩
    · exact vals_back rv (by simpa using e)
    · rcases List.mem_cons.mp hb with h | h
      · exact .inl h
      · exact .inr (by rw [List.mem_singleton.mp h]; rfl)
  | .txt z, xs, at_, st, ne => by
    have e0 : xs = z.cps.toList.map fun c => V.str ⟨#[c]⟩ := at_
    subst e0
    have d := Draws.text (prog := X.prog) (w := X.w) calm it z t
    rw [show z.cps.size = (z.cps.toList.map fun c => V.str ⟨#[c]⟩).length by rw [List.length_map, Array.length_toList]] at d
    refine ⟨_, _, _, d, st, fun j v e => ?_, fun j h e => e, by simp, fun b hb => .inl (List.mem_singleton.mp hb)⟩
    obtain ⟨c, u, e, ev⟩ := e
    subst ev
    exact ⟨.str ⟨#[c]⟩, by rw [List.getElem?_map, Array.getElem?_toList, e]; rfl, ⟨u, rfl⟩⟩
/-- pairs of both, each new -/
def ItzS (K : PySem.W.Frag) (s1 s2 : Src) : It :=
  ⟨fun i H => ∃ xs ys x y, SrcAt K s1 H xs ∧ SrcAt K s2 H ys ∧ xs[i]? = some x ∧ ys[i]? = some y,
    fun i H v H' => ∃ T x y, v = .ref T ∧ H T = none ∧ H' = upd H T (.tup [x, y]) ∧ (∀ xs, SrcAt K s1 H xs → xs[i]? = some x) ∧ ∀ ys, SrcAt K s2 H ys → ys[i]? = some y,
    fun i H => ∃ xs ys, SrcAt K s1 H xs ∧ SrcAt K s2 H ys ∧ i ≤ xs.length ∧ i ≤ ys.length ∧ (i = xs.length ∨ i = ys.length)⟩
/-- the zip's cells lie apart, and apart from what is walked -/
structure ZFar (z TI TO i1 i2 : Addr) (s1 s2 : Src) : Prop where
  a1 : TI ≠ z
  a2 : TO ≠ z
  a3 : TI ≠ TO
  a4 : TI ≠ i1
  a5 : TI ≠ i2
  a6 : TO ≠ i1
  a7 : TO ≠ i2
  a8 : z ≠ i1
  a9 : z ≠ i2
  aA : i1 ≠ i2
  far : ∀ b, s1.addr = some b ∨ s2.addr = some b → b ≠ z ∧ b ≠ TO ∧ b ≠ i1 ∧ b ≠ i2
theorem ZFar.sep {z TI TO i1 i2 : Addr} {s1 s2 : Src} (D : ZFar z TI TO i1 i2 s1 s2) {fp1 fp2 : List Addr} (m1 : i1 ∈ fp1) (m2 : i2 ∈ fp2) (f1 : ∀ b ∈ fp1, b = i1 ∨ s1.addr = some b) (f2 : ∀ b ∈ fp2, b = i2 ∨ s2.addr = some b) : ZipSep2 z TI TO i1 i2 fp1 fp2 where
  TIz := D.a1
  TOz := D.a2
  TITO := D.a3
  TIi1 := D.a4
  mem1 := m1
  zf1 := fun h => (f1 _ h).elim D.a8 fun e => (D.far _ (.inl e)).1 rfl
  Tf1 := fun h => (f1 _ h).elim D.a6 fun e => (D.far _ (.inl e)).2.1 rfl
  TIi2 := D.a5
  mem2 := m2
  zf2 := fun h => (f2 _ h).elim D.a9 fun e => (D.far _ (.inr e)).1 rfl
  Tf2 := fun h => (f2 _ h).elim D.a7 fun e => (D.far _ (.inr e)).2.1 rfl
  sep1_2 := fun h => (f2 _ h).elim D.aA fun e => (D.far _ (.inr e)).2.2.1 rfl
  sep2_1 := fun h => (f1 _ h).elim (fun e => D.aA e.symm) fun e => (D.far _ (.inl e)).2.2.2 rfl
theorem turn_zipS {P : Program} {w : World} {K : PySem.W.Frag} {es : List Expr} {kk : Nat} {tp : Pos} {z TI TO i1 i2 : Addr} {t1 t2 : Tok} {s1 s2 : Src} (D : ZFar z TI TO i1 i2 s1 s2) :
    Turn P w K (.Tuple es kk tp) (ItzS K s1 s2) [z, TI, TO, i1, i2] z (fun i h => IsZip h z TI TO .none ∧ IsTupOf2 h TI (.ref i1) (.ref i2) ∧ (∃ x y, IsTupOf2 h TO x y) ∧ ItrAt i1 t1 s1 i h ∧ ItrAt i2 t2 s2 i h) where
  mem := by simp
  obj := fun i h ⟨hz, hTI, ⟨x, y, hTO⟩, h1, h2⟩ c hc => by
    rcases (show c = z ∨ c = TI ∨ c = TO ∨ c = i1 ∨ c = i2 by simpa using hc) with rfl | rfl | rfl | rfl | rfl
    · exact ⟨_, hz, fun v q => nomatch q⟩
    · exact ⟨_, hTI, fun v q => nomatch q⟩
    · exact ⟨_, hTO, fun v q => nomatch q⟩
    · exact h1.obj
    · exact h2.obj
  keep := fun i h h' ⟨hz, hTI, ⟨x, y, hTO⟩, h1, h2⟩ k => ⟨k z (by simp) _ hz, k TI (by simp) _ hTI, ⟨x, y, k TO (by simp) _ hTO⟩, h1.keep fun o e => k i1 (by simp) o e, h2.keep fun o e => k i2 (by simp) o e⟩
  item := by
    intro X hP hw hK calm i pins s σ H E I hf st hg
    subst hP hw hK
    obtain ⟨hz, hTI, ⟨x0, y0, hTO⟩, h1, h2⟩ := st
    obtain ⟨xs, ys, x, y, qx, qy, hx, hy⟩ := hg
    obtain ⟨fp1, P1, S1, d1, st1, v1, b1, m1, f1⟩ := src_draws (A := X.A.in1) I (I.ok.hd calm) qx h1 fun a e => (D.far a (.inl e)).2.2.1
    obtain ⟨fp2, P2, S2, d2, st2, v2, b2, m2, f2⟩ := src_draws (A := X.A.in1) I (I.ok.hd calm) qy h2 fun a e => (D.far a (.inr e)).2.2.2
    have lz : z < s.heap.objs.size := Heap.lt_size hz
    refine wpAny_pyNext_zipD2_item (D.sep m1 m2 f1 f2) d1 d2 hz hTI hTO st1 st2 (List.getElem?_eq_some_iff.mp hx).1 (List.getElem?_eq_some_iff.mp hy).1 fun u1 u2 h' tk p1 p2 z' TO' r1 r2 hT hsz hk => ?_
    obtain ⟨x', hx', rx⟩ := v1 i u1 p1
    obtain ⟨y', hy', ry⟩ := v2 i u2 p2
    obtain rfl : x = x' := Option.some.inj (hx.symm.trans hx')
    obtain rfl : y = y' := Option.some.inj (hy.symm.trans hy')
    refine ⟨_, rfl, wpAny_letOwnedTupleGo_zip (s := { s with heap := h', toks := tk }) z' fun h2' z2 sb => ?_⟩
    have hT2 : h2'.get? s.heap.objs.size = some { cls := .type "tuple", data := .seq #[u1, u2] } := (sb.2 _ (Nat.ne_of_gt lz)).trans hT
    have far4 : ∀ c o, c ∉ [z, TI, TO, i1, i2] → s.heap.get? c = some o → h2'.get? c = some o := fun c o nc e => by
      have e4 : c ≠ z ∧ c ≠ TI ∧ c ≠ TO ∧ c ≠ i1 ∧ c ≠ i2 := by simpa using nc
      exact (sb.2 c e4.1).trans (hk c o e4.1 e4.2.2.1 e4.2.2.2.1 e4.2.2.2.2 e)
    have I1 : Inv X pins σ (upd H s.heap.objs.size (.tup [x, y])) { s with heap := h2', toks := tk } :=
      I.turnedNew (ch := [z, TI, TO, i1, i2]) far4 hf (Nat.le_refl _) (show ObjOk X.prog X.w _ _ _ (.tup [x, y]) from ⟨by show 2 ≤ sizeLine; decide, [u1, u2], .cons rx (.cons ry .nil), ⟨_, hT2, rfl, _, rfl⟩⟩)
    refine ⟨.ref s.heap.objs.size, _, I1, rfl, ⟨_, x, y, rfl, I.hok.fresh (Nat.le_refl _), rfl, fun l hl => by rw [SrcAt.one I hl qx] <;> exact hx, fun l hl => by rw [SrcAt.one I hl qy] <;> exact hy⟩,
      ⟨z2, (sb.2 _ D.a1).trans (hk _ _ D.a1 D.a3 D.a4 D.a5 hTI), ⟨u1, u2, (sb.2 _ D.a2).trans TO'⟩, (b1 _ _ r1).keep fun o e => (sb.2 _ D.a8.symm).trans e, (b2 _ _ r2).keep fun o e => (sb.2 _ D.a9.symm).trans e⟩, fun c hc => ?_⟩
    have lt : c < s.heap.objs.size := by
      rcases (show c = z ∨ c = TI ∨ c = TO ∨ c = i1 ∨ c = i2 by simpa using hc) with rfl | rfl | rfl | rfl | rfl
      · exact lz
      · exact Heap.lt_size hTI
      · exact Heap.lt_size hTO
      · obtain ⟨_, e, _⟩ := h1.obj; exact Heap.lt_size e
      · obtain ⟨_, e, _⟩ := h2.obj; exact Heap.lt_size e
    rw [upd_ne (Nat.ne_of_lt lt)]
    exact (hf c hc).1
  done := by
    intro X hP hw hK calm i pins s σ H E I hf st hg
    subst hP hw hK
    obtain ⟨hz, hTI, ⟨x0, y0, hTO⟩, h1, h2⟩ := st
    obtain ⟨xs, ys, qx, qy, l1, l2, fin⟩ := hg
    obtain ⟨fp1, P1, S1, d1, st1, v1, b1, m1, f1⟩ := src_draws (A := X.A.in1) I (I.ok.hd calm) qx h1 fun a e => (D.far a (.inl e)).2.2.1
    obtain ⟨fp2, P2, S2, d2, st2, v2, b2, m2, f2⟩ := src_draws (A := X.A.in1) I (I.ok.hd calm) qy h2 fun a e => (D.far a (.inr e)).2.2.2
    exact wpAny_pyNext_zipD2_end (D.sep m1 m2 f1 f2) d1 d2 hz hTI hTO st1 st2 l1 l2 fin fun h' tk hk => ⟨rfl, I.turnedL (ch := [z, TI, TO, i1, i2]) (fun c o nc e => by
      have e4 : c ≠ z ∧ c ≠ TI ∧ c ≠ TO ∧ c ≠ i1 ∧ c ≠ i2 := by simpa using nc
      exact hk c o e4.1 e4.2.2.1 e4.2.2.2.1 e4.2.2.2.2 e) hf⟩
  self := fun A i s Q E st h => wpAny_pyIter_zip st.1 h
theorem src_begins {X : Cx} {pins : List (Addr × Obj)} {σ : L2.St} {H : Hp} {s : Shared} (I : Inv X pins σ H s) : ∀ {sr : Src} {xs : List V} {u : Value}, SrcAt X.K sr H xs → RelV sr.v u →
    ∃ (o : Obj) (Hc : Heap → Prop) (t : Tok), Begins u o Hc ∧ Hc s.heap ∧ (∀ (h : Heap) (it : Addr), h.get? it = some o → ItrAt it t sr 0 h) ∧ ∀ b, sr.addr = some b → Nat.blt b s.heap.objs.size = true
  | .tup a, xs, u, at_, ru => by
    obtain rfl : u = .ref a := ru
    obtain ⟨its, rv, p, _⟩ := I.tuple at_
    obtain ⟨o, ho, _⟩ := id p
    exact ⟨_, _, 0, begins_tuple a its.toArray, p, fun h it e => ⟨_, e, rfl, rfl⟩, fun b e => by
      obtain rfl : a = b := Option.some.inj e
      exact Nat.ble_eq_true_of_le (Heap.lt_size ho)⟩
  | .lst a, xs, u, at_, ru => by
    obtain rfl : u = .ref a := ru
    obtain ⟨its, rv, p, _⟩ := I.list at_
    obtain ⟨o, ho, _⟩ := id p.isList
    exact ⟨_, _, 0, begins_list a its.toArray, p.isList, fun h it e => ⟨_, e, rfl, rfl⟩, fun b e => by
      obtain rfl : a = b := Option.some.inj e
      exact Nat.ble_eq_true_of_le (Heap.lt_size ho)⟩
  | .txt z, xs, u, at_, ru => by
    obtain ⟨t, rfl⟩ := ru
    exact ⟨_, _, t, begins_text z t, trivial, fun h it e => ⟨_, e, rfl, rfl⟩, fun b e => by cases e⟩
theorem zfar {s1 s2 : Src} (n : Nat) (low : ∀ b, s1.addr = some b ∨ s2.addr = some b → Nat.blt b n = true) : ZFar (n + 4) (n + 2) (n + 3) n (n + 1) s1 s2 where
  a1 := fun h => absurd (show n + 2 = n + 4 from h) (by omega)
  a2 := fun h => absurd (show n + 3 = n + 4 from h) (by omega)
  a3 := fun h => absurd (show n + 2 = n + 3 from h) (by omega)
  a4 := fun h => absurd (show n + 2 = n from h) (by omega)
  a5 := fun h => absurd (show n + 2 = n + 1 from h) (by omega)
  a6 := fun h => absurd (show n + 3 = n from h) (by omega)
  a7 := fun h => absurd (show n + 3 = n + 1 from h) (by omega)
  a8 := fun h => absurd (show n + 4 = n from h) (by omega)
  a9 := fun h => absurd (show n + 4 = n + 1 from h) (by omega)
  aA := fun h => absurd (show n = n + 1 from h) (by omega)
  far := fun b hb => by
    have lt : @LT.lt Nat _ b n := Nat.le_of_ble_eq_true (low b hb)
    have ne : ∀ k : Nat, b ≠ n + k := fun k h => absurd (show @Eq Nat b (n + k) from h) (by omega)
    exact ⟨ne 4, ne 3, ne 0, ne 1⟩
/-- for .. in zip(e, e2) -/
def iZipS (K : PySem.W.Frag) (ta : TA) : TI := fun σ H R => ta σ H fun vs H1 => ∃ s1 s2 xs ys, vs = [s1.v, s2.v] ∧ SrcAt K s1 H1 xs ∧ SrcAt K s2 H1 ys ∧ R (ItzS K s1 s2) H1
theorem pi_zipS {X : Cx} {e e2 : Expr} {ta : TA} {p pos tp : Pos} {es : List Expr} {kk : Nat} (hg : Gl X "zip") (hm : X.mg "zip" = none) (ha : PA X [e, e2] ta) (hs : starEach [e, e2] X.env = (false, eval e X.env) :: starEach [e2] X.env := by rfl)
    (hpl : (backTo pos (starEach [e2] X.env)).any (·.1) = false := by rfl) : PI X (.Tuple es kk tp) (.Call (.Name "zip" p) [e, e2] [] pos) (iZipS X.K ta) := by
  refine ⟨fun pins s σ H R I h => Call_ (ld_blt I hg hm boot_zip (callWith_type1 (thn (ha.run pos pins s σ H _ I h) fun us s1 ⟨vs, H1, I1, rel, q1⟩ => ?_) hs hpl))⟩
  obtain ⟨r1, r2, xs, ys, rfl, qx, qy, q⟩ := q1
  obtain ⟨u1, u2, rfl, ru1, ru2⟩ := vals2 rel
  obtain ⟨o1, C1, t1, B1, c1, it1, low1⟩ := src_begins I1 qx ru1
  obtain ⟨o2, C2, t2, B2, c2, it2, low2⟩ := src_begins I1 qy ru2
  refine zip_begins2 B1 B2 c1 c2 fun h' hz hTI hTO g1 g2 hsz hk => wpAny_pyIter_zip hz ?_
  have I2 : Inv X pins σ H1 { s1 with heap := h' } := I1.kept (t' := s1.toks) hk
  have fresh : ∀ c, c ∈ [s1.heap.objs.size + 4, s1.heap.objs.size + 2, s1.heap.objs.size + 3, s1.heap.objs.size, s1.heap.objs.size + 1] → FpOk X pins H1 c := fun c hc => by
    have le : s1.heap.objs.size ≤ c := by
      rcases (show c = s1.heap.objs.size + 4 ∨ c = s1.heap.objs.size + 2 ∨ c = s1.heap.objs.size + 3 ∨ c = s1.heap.objs.size ∨ c = s1.heap.objs.size + 1 by simpa using hc) with z | z | z | z | z
      · rw [z]; exact Nat.le_add_right _ _
      · rw [z]; exact Nat.le_add_right _ _
      · rw [z]; exact Nat.le_add_right _ _
      · rw [z]; exact Nat.le_refl _
      · rw [z]; exact Nat.le_add_right _ _
    exact I1.fpOk le (I1.hok.fresh le)
  exact ⟨_, _, _, _, H1, rfl, I2, turn_zipS (t1 := t1) (t2 := t2) (zfar s1.heap.objs.size fun b hb => hb.elim (low1 b) (low2 b)), ⟨hz, hTI, ⟨_, _, hTO⟩, it1 _ _ g1, it2 _ _ g2⟩, fresh, q⟩
/-- the walk -/
theorem walk_zipS {K : PySem.W.Frag} {s1 s2 : Src} {xs ys : List V} {n : Nat} (hn : n = min xs.length ys.length) : Walk (ItzS K s1 s2) n (fun H => SrcAt K s1 H xs ∧ SrcAt K s2 H ys) (YPair (fun i => xs[i]?) (fun i => ys[i]?)) := by
  subst hn
  refine ⟨fun i H hi q => ⟨xs, ys, xs[i]'(by omega), ys[i]'(by omega), q.1, q.2, List.getElem?_eq_getElem (by omega), List.getElem?_eq_getElem (by omega)⟩, fun H q => ⟨xs, ys, q.1, q.2, by omega, by omega, by omega⟩, fun i H v H' _ q y => ?_⟩
  obtain ⟨T, x, z, h1, h2, h3, h4, h5⟩ := y
  exact ⟨T, x, z, h1, h2, h3, h4 xs q.1, h5 ys q.2⟩
end Lk
set_option Elab.async false
set_option linter.all false
set_option maxRecDepth 100000
set_option maxHeartbeats 4000000
set_option pp.maxSteps 1200
set_option pp.deepTerms false
namespace K6
open PySem PySem.Spec PyProof.Rows L2 Lk
abbrev sWorth : Stmt := top 42
/-- how many parts of the piece are 1 in the record -/
def onesN (L : Lore) (p : List Str) (z : Str) : Nat := ((L.parts.zip (TL.tl z)).filter fun pc => decide (pc.2 = 49 ∧ pc.1 ∈ p)).length
def bitS (n : Nat) : Str := if n % 2 = 1 then "1" else "0"
theorem fm_ones (p : List Str) : ∀ zs : List (Str × Nat), (zs.filterMap fun pc => if pc.2 = 49 ∧ pc.1 ∈ p then some (V.str pc.1) else none) = ((zs.filter fun pc => decide (pc.2 = 49 ∧ pc.1 ∈ p)).map (·.1)).map V.str
  | [] => rfl
  | c :: cs => by
    have ih := fm_ones p cs
    by_cases h : c.2 = 49 ∧ c.1 ∈ p
    · simp only [List.filterMap_cons, if_pos h, List.filter_cons, decide_eq_true h, if_true, List.map_cons, ih]
    · simp only [List.filterMap_cons, if_neg h, List.filter_cons, decide_eq_false h, Bool.false_eq_true, if_false, ih]
section
variable {P : Program} {w : World} {K : PySem.W.Frag} {mg : Str → Option Value} {base : Heap} {f : Addr} {fd : FuncData}
/-! ### worth -/
def spWorth (C CS : Addr) : Sp := fun vs H Q _ => ∃ (x t : Addr) (L : Lore) (p : List Str) (z : Str), vs = [.ref x, .ref t, .str z] ∧ ShAt H C CS x L ∧ LoreOk L ∧ H t = some (.tup (p.map V.str)) ∧ RecOk L z ∧ ∀ H', Same H H' → Q (.str (bitS (onesN L p z))) H'
theorem scWorth : FnScope ["shelf", "piece", "record", "ones", "part", "sign"] ["shelf", "piece", "record"] (defScope sWorth) := ⟨rfl, rfl, rfl, by decide +kernel, rfl, by decide +kernel, by decide +kernel⟩
theorem ok_worth {C CS fS : Addr} (F : Fun K "worth" "worth" sWorth f fd) (T : Bl mg) (Cc : Cn mg) (SC : ShC K CS fS) : FnOk P w K mg base CX0 1 f fd ["shelf", "piece", "record"] (spWorth C CS) := by
  refine F.ok scWorth (fun vs H Q E h => ?_) (fun cdv A outer s H vs Q E hr h => ?_)
  · obtain ⟨x, t, L, p, z, rfl, _⟩ := h
    rfl
  · obtain ⟨x, t, L, p, z, rfl, ⟨dx, fs, hx, sf, _⟩, ok, ht, ⟨zl, zb⟩, k⟩ := h
    obtain ⟨pa, lp, tpa⟩ := sf.parts
    have nd := scWorth.nd
    have p4 := ok.p4
    refine ⟨_, pss_cons (ps_setLc (i := 3) (own := [("part", 4), ("sign", 5)]) (g := gTup K 2 (gCons (gName 4) (gCons (gName 5) gNil))) (tt := tAnd (tTest (tOp rEq (tVar 5) (tC (.str "1")))) (tTest (tOp (rIn K false) (tVar 4) (tVar 1)))) (te := tVar 4) rfl nd rfl rfl (sw_true rfl rfl rfl (by decide +kernel))
        (pi_zipS (by rfl) Cc.zip (pa_cons (pe_fld (pv 0) rfl) (pa_cons (pv 2) pa_nil))) (blkOk_by (N := ["shelf", "piece", "record", "ones", "part", "sign"]) (sc := defScope sWorth) (by decide +kernel))
        (fun _ _ _ _ _ => pg_tup rfl (pgs_cons (pg_name (i := 4) nd rfl (.inl rfl)) (pgs_cons (pg_name (i := 5) nd rfl (.inl rfl)) pgs_nil))) (fun _ _ _ _ _ => pts_one (PW.pt (pw_and (pt_cmpR op_eq (pv 5) pe_str (nomark _)) (pw_and1 (pt_cmpR op_in_seq (pv 4) (pv 1) rfl))))) (fun _ _ _ _ _ => pv 4))
      (pss_one (ps_ret (pe_ix ix_str pe_str (pe_op op_odd (pe_callB call_len_seq (by rfl) T.len PySem.boot_len (pa_cons (pv 3) pa_nil)) pe_int) (fun _ _ => rfl)))), ?_⟩
    have zt : (TL.tl z).length = L.parts.length := by rw [← zl]; exact Array.length_toList
    have al : ((TL.tl z).map fun c => V.str ⟨#[c]⟩).length = L.parts.length := by rw [List.length_map, zt]
    have nl : (L.parts.zip (TL.tl z)).length = L.parts.length := by rw [List.length_zip, zt, Nat.min_self]
    have src : ∀ H', Same H H' → SrcAt K (.tup pa) H' (L.parts.map V.str) ∧ SrcAt K (.txt z) H' ((TL.tl z).map fun c => V.str ⟨#[c]⟩) := fun H' s' => ⟨(tpa.same s').sq, rfl⟩
    refine ⟨_, rfl, x, CS, dx, fs, .ref pa, rfl, hx, SC.cls, SC.parts, lp, _, rfl, .tup pa, .txt z, L.parts.map V.str, (TL.tl z).map fun c => V.str ⟨#[c]⟩, rfl, (src H (Same.refl _)).1, rfl, fun D nD => ?_⟩
    refine lc_fm (walk_zipS (s1 := .tup pa) (s2 := .txt z) (n := L.parts.length) (by rw [List.length_map, al, Nat.min_self])) (L.parts.zip (TL.tl z)) (fun pc => if pc.2 = 49 ∧ pc.1 ∈ p then some (V.str pc.1) else none) nl (by omega) nD (fun H' s' => src H' s') ?_ ?_
    · rintro i v pc H1 H1' R Rn hpc s1 ⟨T1, a1, a2, rfl, nT, rfl, e1, e2⟩ k1 k2
      obtain ⟨g1, g2⟩ := List.getElem?_zip_eq_some.mp hpc
      obtain rfl : V.str pc.1 = a1 := by
        have e1 : (L.parts.map V.str)[i]? = some a1 := e1
        rw [List.getElem?_map, g1] at e1
        exact Option.some.inj e1
      obtain rfl : V.str ⟨#[pc.2]⟩ = a2 := by
        have e2 : ((TL.tl z).map fun c => V.str ⟨#[c]⟩)[i]? = some a2 := e2
        rw [List.getElem?_map, g2] at e2
        exact Option.some.inj e2
      have s2 : Same H1 (upd H1 T1 (.tup [.str pc.1, .str ⟨#[pc.2]⟩])) := same_new nT
      refine ⟨T1, _, rfl, SqT.of upd_same, rfl, _, _, rfl, _, _, rfl, rfl, rfl, _, rfl, rfl, _, rfl, ?_⟩
      by_cases h1 : pc.2 = 49
      · refine iteA (decide_eq_true (by rw [h1]; rfl)) ⟨_, rfl, _, rfl, t, _, rfl, .inr (SqT.of (s2 _ _ (s1 _ _ ht))), rfl, flat_strs _, _, rfl, ?_⟩
        rw [inV_str]
        by_cases h2 : pc.1 ∈ p
        · refine iteA (by simp [h2]) ⟨_, rfl, k1 _ _ (if_pos ⟨h1, h2⟩) s2⟩
        · exact iteB (by simp [h2]) (k2 _ (if_neg fun q => h2 q.2) s2)
      · refine iteB (decide_eq_false fun q => h1 ?_) ?_
        · have q2 : (⟨#[pc.2]⟩ : Str) = "1" := V.str.inj q
          have q3 : #[pc.2] = (#[49] : Array Nat) := congrArg Str.cps q2
          have q4 : [pc.2] = [49] := congrArg Array.toList q3
          exact (List.cons.inj q4).1
        · show (if false = true then _ else _)
          exact iteF (k2 _ (if_neg fun q => h1 q.1) s2)
    · intro H1 s1 eD
      rw [fm_ones] at eD
      refine ⟨_, rfl, D, _, rfl, .inl (SqL.of eD), onesN L p z, ?_, rfl, ?_⟩
      · rw [List.length_map, List.length_map]
        rfl
      have m2 : onesN L p z % 2 = 0 ∨ onesN L p z % 2 = 1 := by omega
      rcases m2 with m | m
      · refine ⟨"01", _, 48, rfl, rfl, by rw [sizeLine_eq]; decide, by rw [m]; rfl, ?_⟩
        have : bitS (onesN L p z) = ⟨#[48]⟩ := by unfold bitS; rw [if_neg (by omega)]; rfl
        rw [← this]
        exact k _ s1
      · refine ⟨"01", _, 49, rfl, rfl, by rw [sizeLine_eq]; decide, by rw [m]; rfl, ?_⟩
        have : bitS (onesN L p z) = ⟨#[49]⟩ := by unfold bitS; rw [if_pos m]; rfl
        rw [← this]
        exact k _ s1
end
end K6
set_option Elab.async false
set_option linter.all false
set_option maxRecDepth 100000
set_option maxHeartbeats 4000000
set_option pp.maxSteps 1200
set_option pp.deepTerms false
namespace K6
open PySem PySem.Spec PyProof.Rows L2 Lk
abbrev sAnswer : Stmt := top 32
def answerS (L : Lore) (k : KP) (z : Str) : Str := Txt.join "" (k.2.map fun p => bitS (onesN L p z))
section
variable {P : Program} {w : World} {K : PySem.W.Frag} {mg : Str → Option Value} {base : Heap} {f : Addr} {fd : FuncData}
theorem ShAt.same {H H' : Hp} {C CS x : Addr} {L : Lore} (h : ShAt H C CS x L) (s : Same H H') : ShAt H' C CS x L := by
  obtain ⟨dx, fs, e, sf, tx, p, ts, lp, ep, pr, D, kvs, lD, eD, vD⟩ := h
  exact ⟨dx, fs, s _ _ e, sf.same s, tx, p, ts, lp, s _ _ ep, Paired.mapP pr fun v q ⟨t, e, h⟩ => ⟨t, e, s _ _ h⟩, D, kvs, lD, s _ _ eD, vD⟩
/-! ### answer -/
def spAnswer (C CS : Addr) : Sp := fun vs H Q _ => ∃ (x : Addr) (L : Lore) (j : Nat) (kq : KP) (z : Str), vs = [.ref x, .str kq.1, .str z] ∧ ShAt H C CS x L ∧ LoreOk L ∧ L.kps[j]? = some kq ∧ RecOk L z ∧ ∀ H', Same H H' → Q (.str (answerS L kq z)) H'
theorem scAnswer : FnScope ["shelf", "keeper", "record", "place", "piece"] ["shelf", "keeper", "record"] (defScope sAnswer) := ⟨rfl, rfl, rfl, by decide +kernel, rfl, by decide +kernel, by decide +kernel⟩
theorem ok_answer {C CS fC fS fK fR fW : Addr} {fdK fdR fdW : FuncData} (F : Fun K "answer" "answer" sAnswer f fd) (CC : CircC K C fC) (SC : ShC K CS fS)
    (GK : FnOk P w K mg base CX0 2 fK fdK ["shelf", "value"] (spRefKeeper C CS)) (kK : PySem.W.keepIn K (.ref fK) = true) (bK : Binds K fdK ["shelf", "value"] []) (mK : mg "refuse_keeper" = some (.ref fK))
    (GR : FnOk P w K mg base CX0 3 fR fdR ["shelf", "value"] (spRefRecord C CS)) (kR : PySem.W.keepIn K (.ref fR) = true) (bR : Binds K fdR ["shelf", "value"] []) (mR : mg "refuse_record" = some (.ref fR))
    (GW : FnOk P w K mg base CX0 1 fW fdW ["shelf", "piece", "record"] (spWorth C CS)) (kW : PySem.W.keepIn K (.ref fW) = true) (bW : Binds K fdW ["shelf", "piece", "record"] []) (mW : mg "worth" = some (.ref fW)) :
    FnOk P w K mg base CX0 4 f fd ["shelf", "keeper", "record"] (spAnswer C CS) := by
  refine F.ok scAnswer (fun vs H Q E h => ?_) (fun cdv A outer s H vs Q E hr h => ?_)
  · obtain ⟨x, L, j, kq, z, rfl, _⟩ := h
    rfl
  · obtain ⟨x, L, j, kq, z, rfl, sh, ok, hj, rc, k⟩ := h
    have nd := scAnswer.nd
    have hr1 : Room 1 _ := hr.mono (by decide)
    have hr2 : Room 2 _ := hr.mono (by decide)
    refine ⟨_, pss_cons (ps_expr (pe_call GK hr2 (by rfl) mK kK bK .nil pass0 (pa_cons (pv 0) (pa_cons (pv 1) pa_nil)))) (pss_cons (ps_expr (pe_call GR hr (by rfl) mR kR bR .nil pass0 (pa_cons (pv 0) (pa_cons (pv 2) pa_nil))))
      (pss_cons (ps_set (i := 3) nd rfl (.inl rfl) (pe_bmX PySem.F.slot_tuple_index PySem.F.type_tuple_index mt_tup_index (pe_fld (pe_fld (pv 0) rfl) rfl) (pa_cons (pv 1) pa_nil)))
      (pss_one (ps_ret (pe_join pe_str (pe_lc (own := [("piece", 4)]) (g := gName 4) (tt := tYes) (te := tCall (spWorth C CS) [] E0 (tCons (tVar 0) (tCons (tVar 4) (tCons (tVar 2) tNil)))) rfl nd (pi_tup (pe_ix ix_tup (pe_fld (pv 0) rfl) (pv 3) (fun _ _ => rfl)))
        (blkOk_by (N := ["shelf", "keeper", "record", "place", "piece"]) (sc := defScope sAnswer) (by decide +kernel)) (fun _ _ _ _ _ => pg_name (i := 4) nd rfl (.inl rfl)) (fun _ _ _ _ _ => pts_nil) (fun _ _ _ _ _ => pe_call GW hr1 (by rfl) mW kW bW .nil pass0 (pa_cons (pv 0) (pa_cons (pv 4) (pa_cons (pv 2) pa_nil)))))))))), ?_⟩
    have km := List.mem_of_getElem? hj
    have kl := (ok.q kq km).2.1
    refine ⟨_, rfl, _, rfl, x, L, kq, rfl, sh, km, ?_⟩
    refine ⟨_, rfl, _, rfl, x, L, z, rfl, sh, ok, rc, fun H1 s1 => ?_⟩
    have sh1 := sh.same s1
    obtain ⟨dx, fs, hx, sf, _⟩ := id sh1
    obtain ⟨c, lc, cdx, nm, ec, en⟩ := sf.circle
    obtain ⟨q, lq, rows, eq, pr⟩ := sf.pieces
    obtain ⟨v, hv, r, ts, rfl, er, ep⟩ := paired_get pr hj
    have kn : (L.kps.map (·.1))[j]? = some kq.1 := by rw [List.getElem?_map, hj]; rfl
    refine ⟨_, rfl, x, CS, dx, fs, .ref c, rfl, hx, SC.cls, SC.circle, lc, c, C, cdx, _, .ref nm, rfl, ec, CC.cls, CC.nm, rfl, ⟨nm, _, rfl, en⟩, _, rfl, nm, L.kps.map (·.1), kq.1, j, rfl, rfl, en.sq, kn, first_at ok.kn kn, ?_⟩
    obtain ⟨zs, z1, z2, z3⟩ := paired_zip ep
    have zl : zs.length = kq.2.length := by rw [← z2, List.length_map]
    refine ⟨⟨_, rfl⟩, _, rfl, x, CS, dx, fs, .ref q, rfl, hx, SC.cls, SC.pieces, lq, _, rfl, q, rows, _, .ref r, rfl, rfl, SqT.of eq, atN hv, r, rfl, ⟨_, SqT.of er⟩, fun D nD => lc_fm (walk_tup (a := r) (xs := ts)) zs (fun y => some (V.str (bitS (onesN L y.2 z)))) (by rw [← z1, List.length_map]) (by rw [← z1, List.length_map]; omega) nD (fun H s => sqT_same s (SqT.of er)) ?_ ?_⟩
    · rintro i u y H2 H2' R Rn hy s2 ⟨rfl, hu⟩ k1 k2
      obtain ⟨t, et, eh⟩ := z3 y (List.mem_of_getElem? hy)
      obtain rfl : V.ref t = u := by
        rw [← z1, List.getElem?_map, hy] at hu
        rw [← et]
        exact Option.some.inj hu
      exact ⟨rfl, _, rfl, _, rfl, _, rfl, x, t, L, y.2, z, rfl, sh1.same s2, ok, s2 _ _ eh, rc, fun H3 s3 => k1 _ _ rfl s3⟩
    · intro H2 s2 eD
      have fe : (zs.filterMap fun y => some (V.str (bitS (onesN L y.2 z)))) = (kq.2.map fun p => bitS (onesN L p z)).map V.str := by
        rw [← z2]
        simp [Function.comp_def]
      rw [fe] at eD
      have one : ∀ n, (bitS n).length ≤ 1 := fun n => by
        unfold bitS
        split <;> decide
      refine ⟨"", D, kq.2.map fun p => bitS (onesN L p z), rfl, rfl, .inl (SqL.of eD), ?_, k _ (s1.trans s2)⟩
      refine Nat.le_trans (join_le (s := ("" : Str)) (n := 2) (c := 1) (by rw [List.length_map]; exact kl) fun y hy => ?_).1 (by decide)
      obtain ⟨p, _, rfl⟩ := List.mem_map.mp hy
      exact one _
end
end K6
set_option Elab.async false
set_option linter.all false
set_option maxRecDepth 100000
set_option maxHeartbeats 4000000
set_option pp.maxSteps 1200
set_option pp.deepTerms false
namespace K6
open PySem PySem.Spec PyProof.Rows L2 Lk
abbrev sValue : Stmt := top 81
theorem sum_ones (p : List Str) : ∀ zs : List (Str × Nat), (∀ pc ∈ zs, pc.2 = 48 ∨ pc.2 = 49) → ((zs.filter fun pc => decide (pc.1 ∈ p)).map fun pc => (pc.2 : Int) - 48).sum = ((zs.filter fun pc => decide (pc.2 = 49 ∧ pc.1 ∈ p)).length : Int)
  | [], _ => rfl
  | c :: cs, h => by
    have ih := sum_ones p cs fun y hy => h y (List.mem_cons_of_mem _ hy)
    have hc := h c List.mem_cons_self
    by_cases m : c.1 ∈ p
    · rcases hc with e | e
      · have n : ¬ (c.2 = 49 ∧ c.1 ∈ p) := fun q => by omega
        simp only [List.filter_cons, decide_eq_true m, decide_eq_false n, if_true, Bool.false_eq_true, if_false, List.map_cons, List.sum_cons, ih]
        omega
      · have n : c.2 = 49 ∧ c.1 ∈ p := ⟨e, m⟩
        simp only [List.filter_cons, decide_eq_true m, decide_eq_true n, if_true, List.map_cons, List.sum_cons, List.length_cons, ih]
        omega
    · have n : ¬ (c.2 = 49 ∧ c.1 ∈ p) := fun q => m q.2
      simp only [List.filter_cons, decide_eq_false m, decide_eq_false n, Bool.false_eq_true, if_false, ih]
theorem fm_in (p : List Str) : ∀ zs : List (Str × Nat), (zs.filterMap fun pc => if pc.1 ∈ p then some (V.int ((pc.2 : Int) - 48)) else none) = ((zs.filter fun pc => decide (pc.1 ∈ p)).map fun pc => (pc.2 : Int) - 48).map V.int
  | [] => rfl
  | c :: cs => by
    have ih := fm_in p cs
    by_cases h : c.1 ∈ p
    · simp only [List.filterMap_cons, if_pos h, List.filter_cons, decide_eq_true h, if_true, List.map_cons, ih]
    · simp only [List.filterMap_cons, if_neg h, List.filter_cons, decide_eq_false h, Bool.false_eq_true, if_false, ih]
theorem int_sign {c : Nat} (h : c = 48 ∨ c = 49) : PySem.intText? ⟨#[c]⟩ = some ((c : Int) - 48) := by
  rcases h with rfl | rfl
  · decide +kernel
  · decide +kernel
def rIntS : List V → Hp → VK → Prop := fun xs H Q => ∃ a n, xs = [.str a] ∧ PySem.intText? a = some n ∧ a.length ≤ 640 ∧ Q (.int n) H
section
variable {P : Program} {w : World} {K : PySem.W.Frag} {mg : Str → Option Value} {base : Heap} {f : Addr} {fd : FuncData}
/-! ### _law_value -/
def spValue : Sp := fun vs H Q _ => ∃ (lo t : Addr) (L : Lore) (p : List Str) (z : Str), vs = [.ref lo, .ref t, .str z] ∧ LoreAt H lo L ∧ L.parts.length ≤ 4 ∧ H t = some (.tup (p.map V.str)) ∧ RecOk L z ∧ ∀ H', Same H H' → Q (.int ((onesN L p z : Int) % 2)) H'
theorem scValue : FnScope ["lore", "piece", "record", "part", "mark"] ["lore", "piece", "record"] (defScope sValue) := ⟨rfl, rfl, rfl, by decide +kernel, rfl, by decide +kernel, by decide +kernel⟩
theorem ok_value (F : Fun K "_law_piece_value" "_law_piece_value" sValue f fd) (T : Bl mg) (Cc : Cn mg) : FnOk P w K mg base CX0 1 f fd ["lore", "piece", "record"] spValue := by
  refine F.ok scValue (fun vs H Q E h => ?_) (fun cdv A outer s H vs Q E hr h => ?_)
  · obtain ⟨lo, t, L, p, z, rfl, _⟩ := h
    rfl
  · obtain ⟨lo, t, L, p, z, rfl, ⟨pa, nm, pt, rows, e1, e2, e3, e4, e5⟩, p4, ht, ⟨zl, zb⟩, k⟩ := h
    have nd := scValue.nd
    have hu := hu_of hr
    refine ⟨_, pss_one (ps_ret (pe_op op_mod (pe_callB (cr_sum rfl) (by rfl) Cc.sum boot_sum (pa_cons (pe_lc (own := [("part", 3), ("mark", 4)]) (g := gTup K 2 (gCons (gName 3) (gCons (gName 4) gNil))) (tt := tTest (tOp (rIn K false) (tVar 3) (tVar 1))) (te := tCB rIntS (tCons (tVar 4) tNil)) rfl nd
        (pi_zipS (by rfl) Cc.zip (pa_cons (pe_dget hu (pv 0) pe_str (fun _ _ => rfl)) (pa_cons (pv 2) pa_nil))) (blkOk_by (N := ["lore", "piece", "record", "part", "mark"]) (sc := defScope sValue) (by decide +kernel))
        (fun _ _ _ _ _ => pg_tup rfl (pgs_cons (pg_name (i := 3) nd rfl (.inl rfl)) (pgs_cons (pg_name (i := 4) nd rfl (.inl rfl)) pgs_nil))) (fun _ _ _ _ _ => pts_one (pt_cmpR op_in_seq (pv 3) (pv 1) rfl)) (fun _ _ _ _ _ => pe_callTy call_int_str (by rfl) T.int boot_int (pa_cons (pv 4) pa_nil))) pa_nil)) pe_int)), ?_⟩
    have zt : (TL.tl z).length = L.parts.length := by rw [← zl]; exact Array.length_toList
    have al : ((TL.tl z).map fun c => V.str ⟨#[c]⟩).length = L.parts.length := by rw [List.length_map, zt]
    have nl : (L.parts.zip (TL.tl z)).length = L.parts.length := by rw [List.length_zip, zt, Nat.min_self]
    have src : ∀ H', Same H H' → SrcAt K (.tup pa) H' (L.parts.map V.str) ∧ SrcAt K (.txt z) H' ((TL.tl z).map fun c => V.str ⟨#[c]⟩) := fun H' s' => ⟨SqT.of (s' _ _ e2), rfl⟩
    refine ⟨_, rfl, lo, _, rfl, (dget3 e1).1, _, rfl, .tup pa, .txt z, L.parts.map V.str, (TL.tl z).map fun c => V.str ⟨#[c]⟩, rfl, (src H (Same.refl _)).1, rfl, fun D nD => ?_⟩
    refine lc_fm (walk_zipS (s1 := .tup pa) (s2 := .txt z) (n := L.parts.length) (by rw [List.length_map, al, Nat.min_self])) (L.parts.zip (TL.tl z)) (fun pc => if pc.1 ∈ p then some (V.int ((pc.2 : Int) - 48)) else none) nl (by omega) nD (fun H' s' => src H' s') ?_ ?_
    · rintro i v pc H1 H1' R Rn hpc s1 ⟨T1, a1, a2, rfl, nT, rfl, f1, f2⟩ k1 k2
      obtain ⟨g1, g2⟩ := List.getElem?_zip_eq_some.mp hpc
      obtain rfl : V.str pc.1 = a1 := by
        have f1 : (L.parts.map V.str)[i]? = some a1 := f1
        rw [List.getElem?_map, g1] at f1
        exact Option.some.inj f1
      obtain rfl : V.str ⟨#[pc.2]⟩ = a2 := by
        have f2 : ((TL.tl z).map fun c => V.str ⟨#[c]⟩)[i]? = some a2 := f2
        rw [List.getElem?_map, g2] at f2
        exact Option.some.inj f2
      have bit := zb pc.2 (List.mem_of_getElem? g2)
      have s2 : Same H1 (upd H1 T1 (.tup [.str pc.1, .str ⟨#[pc.2]⟩])) := same_new nT
      refine ⟨T1, _, rfl, SqT.of upd_same, rfl, _, _, rfl, _, _, rfl, rfl, rfl, _, rfl, _, rfl, t, _, rfl, .inr (SqT.of (s2 _ _ (s1 _ _ ht))), rfl, flat_strs _, _, rfl, ?_⟩
      rw [inV_str]
      by_cases h2 : pc.1 ∈ p
      · refine iteA (by simp [h2]) ⟨_, rfl, ⟨#[pc.2]⟩, _, rfl, int_sign bit, by show 1 ≤ 640; decide, k1 _ _ (if_pos h2) s2⟩
      · exact iteB (by simp [h2]) (k2 _ (if_neg h2) s2)
    · intro H1 s1 eD
      rw [fm_in] at eD
      refine ⟨D, _, rfl, SqL.of eD, _, _, rfl, rfl, (show (0 : Int) < 2 by decide), ?_⟩
      rw [sum_ones p _ fun pc hpc => zb pc.2 (List.of_mem_zip hpc).2]
      exact k _ s1
end
end K6
set_option Elab.async false
set_option linter.all false
set_option maxRecDepth 100000
set_option maxHeartbeats 4000000
set_option pp.maxSteps 1200
set_option pp.deepTerms false
namespace K6
open PySem PySem.Spec PyProof.Rows L2 Lk
abbrev sLAnswer : Stmt := top 82
theorem merge_not {k : Key} : ∀ {more b : List (Key × V)}, k ∉ more.map (·.1) → valV (mergeK b more) k = valV b k
  | [], _, _ => rfl
  | p :: more, b, h => by
    show valV (mergeK (putK b p.1 p.2) more) k = _
    rw [merge_not fun q => h (List.mem_cons_of_mem _ q), valV_put, if_neg fun e => h (by rw [e]; exact List.mem_cons_self)]
theorem merge_at {k : Key} {v : V} : ∀ {more b : List (Key × V)}, (more.map (·.1)).Nodup → (k, v) ∈ more → valV (mergeK b more) k = some v
  | [], _, _, h => by simp at h
  | p :: more, b, nd, h => by
    have nd2 := List.nodup_cons.mp nd
    show valV (mergeK (putK b p.1 p.2) more) k = _
    rcases List.mem_cons.mp h with e | h
    · subst e
      rw [merge_not nd2.1, valV_put, if_pos rfl]
    · exact merge_at nd2.2 h
theorem paired_keys {α β γ : Type} {R : α → β → Prop} {u : α → γ} {v : β → γ} (h : ∀ x y, R x y → u x = v y) : ∀ {xs : List α} {ys : List β}, Paired R xs ys → xs.map u = ys.map v
  | _, _, .nil => rfl
  | _, _, .cons r t => by rw [List.map_cons, List.map_cons, h _ _ r, paired_keys h t]
def rStrI : List V → Hp → VK → Prop := fun xs H Q => ∃ i : Int, xs = [.int i] ∧ i.natAbs.log2 < 1920 ∧ Q (.str (toString i)) H
theorem bit_text (n : Nat) : ((n : Int) % 2).natAbs.log2 < 1920 ∧ (toString ((n : Int) % 2) : Str) = bitS n := by
  have : (n : Int) % 2 = 0 ∧ n % 2 = 0 ∨ (n : Int) % 2 = 1 ∧ n % 2 = 1 := by omega
  unfold bitS
  rcases this with ⟨e, e2⟩ | ⟨e, e2⟩
  · rw [e, if_neg (by omega)]
    exact ⟨by decide +kernel, by decide +kernel⟩
  · rw [e, if_pos e2]
    exact ⟨by decide +kernel, by decide +kernel⟩
section
variable {P : Program} {w : World} {K : PySem.W.Frag} {mg : Str → Option Value} {base : Heap} {f : Addr} {fd : FuncData}
/-! ### _law_answer -/
def spLAnswer : Sp := fun vs H Q _ => ∃ (lo : Addr) (L : Lore) (j : Nat) (kq : KP) (z : Str), vs = [.ref lo, .str kq.1, .str z] ∧ LoreAt H lo L ∧ LoreOk L ∧ L.kps[j]? = some kq ∧ RecOk L z ∧ ∀ H', Same H H' → Q (.str (answerS L kq z)) H'
theorem scLAnswer : FnScope ["lore", "name", "record", "some", "piece"] ["lore", "name", "record"] (defScope sLAnswer) := ⟨rfl, rfl, rfl, by decide +kernel, rfl, by decide +kernel, by decide +kernel⟩
theorem ok_lanswer {fV : Addr} {fdV : FuncData} (F : Fun K "_law_answer" "_law_answer" sLAnswer f fd) (T : Bl mg) (Cc : Cn mg) (FV : Fun K "_law_piece_value" "_law_piece_value" sValue fV fdV) (bV : Binds K fdV ["lore", "piece", "record"] []) (mV : mg "_law_piece_value" = some (.ref fV)) :
    FnOk P w K mg base CX0 2 f fd ["lore", "name", "record"] spLAnswer := by
  have GV : FnOk P w K mg base CX0 1 fV fdV ["lore", "piece", "record"] spValue := ok_value FV T Cc
  refine F.ok scLAnswer (fun vs H Q E h => ?_) (fun cdv A outer s H vs Q E hr h => ?_)
  · obtain ⟨lo, L, j, kq, z, rfl, _⟩ := h
    rfl
  · obtain ⟨lo, L, j, kq, z, rfl, la, ok, hj, rc, k⟩ := h
    obtain ⟨pa, nm, pt, rows, e1, e2, e3, e4, e5⟩ := id la
    have nd := scLAnswer.nd
    have hu := hu_of hr
    refine ⟨_, pss_cons (ps_set (i := 3) nd rfl (.inl rfl) (pe_ix ix_tup (pe_dget hu (pv 0) pe_str (fun _ _ => rfl)) (pe_bmX PySem.F.slot_tuple_index PySem.F.type_tuple_index mt_tup_index (pe_dget hu (pv 0) pe_str (fun _ _ => rfl)) (pa_cons (pv 1) pa_nil)) (fun _ _ => rfl)))
      (pss_one (ps_ret (pe_join pe_str (pe_lc (own := [("piece", 4)]) (g := gName 4) (tt := tYes) (te := tCB rStrI (tCons (tCall spValue [] E0 (tCons (tVar 0) (tCons (tVar 4) (tCons (tVar 2) tNil)))) tNil)) rfl nd (pi_tup (pv 3))
        (blkOk_by (N := ["lore", "name", "record", "some", "piece"]) (sc := defScope sLAnswer) (by decide +kernel)) (fun _ _ _ _ _ => pg_name (i := 4) nd rfl (.inl rfl)) (fun _ _ _ _ _ => pts_nil)
        (fun _ _ _ _ _ => pe_callTy call_str_int (by rfl) Cc.str boot_str (pa_cons (pe_call GV hr (by rfl) mV FV.kp bV .nil pass0 (pa_cons (pv 0) (pa_cons (pv 4) (pa_cons (pv 2) pa_nil)))) pa_nil)))))), ?_⟩
    obtain ⟨v, hv, q, ts, rfl, eq, ep⟩ := paired_get e5 hj
    have kn : (L.kps.map (·.1))[j]? = some kq.1 := by rw [List.getElem?_map, hj]; rfl
    have kl := (ok.q kq (List.mem_of_getElem? hj)).2.1
    refine ⟨_, rfl, lo, _, rfl, (dget3 e1).2.2, _, rfl, lo, _, rfl, (dget3 e1).2.1, ⟨nm, _, rfl, e3⟩, _, rfl, nm, L.kps.map (·.1), kq.1, j, rfl, rfl, e3.sq, kn, first_at ok.kn kn, pt, rows, _, .ref q, rfl, rfl, SqT.of e4, atN hv, ?_⟩
    obtain ⟨zs, z1, z2, z3⟩ := paired_zip ep
    have zl : zs.length = kq.2.length := by rw [← z2, List.length_map]
    refine ⟨⟨_, rfl⟩, _, rfl, q, rfl, ⟨_, SqT.of eq⟩, fun D nD => lc_fm (walk_tup (a := q) (xs := ts)) zs (fun y => some (V.str (bitS (onesN L y.2 z)))) (by rw [← z1, List.length_map]) (by rw [← z1, List.length_map]; omega) nD (fun H s => sqT_same s (SqT.of eq)) ?_ ?_⟩
    · rintro i u y H2 H2' R Rn hy s2 ⟨rfl, hu2⟩ k1 k2
      obtain ⟨t, et, eh⟩ := z3 y (List.mem_of_getElem? hy)
      obtain rfl : V.ref t = u := by
        rw [← z1, List.getElem?_map, hy] at hu2
        rw [← et]
        exact Option.some.inj hu2
      obtain ⟨b1, b2⟩ := bit_text (onesN L y.2 z)
      refine ⟨rfl, _, rfl, _, rfl, _, rfl, lo, t, L, y.2, z, rfl, la.same s2, ok.p4, s2 _ _ eh, rc, fun H3 s3 => ⟨_, rfl, b1, ?_⟩⟩
      rw [b2]
      exact k1 _ _ rfl s3
    · intro H2 s2 eD
      have fe : (zs.filterMap fun y => some (V.str (bitS (onesN L y.2 z)))) = (kq.2.map fun p => bitS (onesN L p z)).map V.str := by
        rw [← z2]
        simp [Function.comp_def]
      rw [fe] at eD
      have one : ∀ n, (bitS n).length ≤ 1 := fun n => by
        unfold bitS
        split <;> decide
      refine ⟨"", D, kq.2.map fun p => bitS (onesN L p z), rfl, rfl, .inl (SqL.of eD), ?_, k _ s2⟩
      refine Nat.le_trans (join_le (s := ("" : Str)) (n := 2) (c := 1) (by rw [List.length_map]; exact kl) fun y hy => ?_).1 (by decide)
      obtain ⟨p, _, rfl⟩ := List.mem_map.mp hy
      exact one _
/-! ### _law_less -/
def spLess (K : PySem.W.Frag) : Sp := fun vs H Q _ => ∃ (n s : Addr) (ns ss : List Str), vs = [.ref n, .ref s] ∧ Sq K H n (ns.map V.str) ∧ Sq K H s (ss.map V.str) ∧ ns.length ≤ 100 ∧
  ∀ p H', Same H H' → H p = none → H' p = some (.tup ((ns.filter fun p => !decide (p ∈ ss)).map V.str)) → Q (.ref p) H'
theorem fm_ifn (ss : List Str) : ∀ ps : List Str, ps.filterMap (fun x => if x ∈ ss then none else some (V.str x)) = (ps.filter fun x => !decide (x ∈ ss)).map V.str
  | [] => rfl
  | p :: ps => by
    have ih := fm_ifn ss ps
    by_cases h : p ∈ ss
    · simp [List.filterMap_cons, List.filter_cons, h, ih]
    · simp [List.filterMap_cons, List.filter_cons, h, ih]
end
end K6
set_option Elab.async false
set_option linter.all false
set_option maxRecDepth 100000
set_option maxHeartbeats 4000000
set_option pp.maxSteps 1200
set_option pp.deepTerms false
namespace K6
open PySem PySem.Spec PyProof.Rows L2 Lk
abbrev sIsInt : Stmt := top 10
abbrev sIsRow : Stmt := top 12
/-! ### spots as data -/
def spD (s : Spot) : PyData := .tuple [.str s.1, .int (s.2 : Int)]
def SpOk (zs : List Spot) : Prop := ∀ s ∈ zs, PyData.strOk s.1 = true
theorem spD_lay {s : Spot} (h : PyData.strOk s.1 = true) : (spD s).canLay0 = true := by simp [spD, PyData.canLay0, PyData.canLayAll0, h]
theorem spD_depth (s : Spot) : (spD s).depth = 1 := by simp [spD, PyData.depth, PyData.depthAll]
theorem spDs_lay : ∀ {zs : List Spot}, SpOk zs → PyData.canLayAll0 (zs.map spD) = true
  | [], _ => by simp [PyData.canLayAll0]
  | z :: zs, h => by simp [PyData.canLayAll0, spD_lay (h z List.mem_cons_self), spDs_lay fun s hs => h s (List.mem_cons_of_mem _ hs)]
theorem spDs_depth : ∀ zs : List Spot, PyData.depthAll (zs.map spD) ≤ 1
  | [] => by simp [PyData.depthAll]
  | z :: zs => by
    have h1 := spDs_depth zs
    have h2 := spD_depth z
    simp only [List.map_cons, PyData.depthAll]
    omega
theorem spD_shaped {z : Spot} (hz : PyData.strOk z.1 = true) : SeqAt.shaped (spD z) = true := by
  have h := spD_depth z
  show ((spD z).canLay0 && decide ((spD z).depth ≤ 64)) = true
  rw [Bool.and_eq_true]
  exact ⟨spD_lay hz, decide_eq_true (by omega)⟩
theorem spDs_shaped {zs : List Spot} (hz : SpOk zs) : SeqAt.shaped (.tuple (zs.map spD)) = true := by
  have h1 := spDs_depth zs
  have h2 : PyData.depth (.tuple (zs.map spD)) ≤ 64 := by
    simp only [PyData.depth]
    omega
  show (PyData.canLay0 (.tuple (zs.map spD)) && decide (PyData.depth (.tuple (zs.map spD)) ≤ 64)) = true
  rw [Bool.and_eq_true]
  exact ⟨by simp only [PyData.canLay0]; exact spDs_lay hz, decide_eq_true h2⟩
theorem spD_eqv (z y : Spot) : PyData.eqv (spD z) (spD y) = decide (z = y) := by
  obtain ⟨a, b⟩ := z
  obtain ⟨c, d⟩ := y
  have e : PyData.eqv (spD (a, b)) (spD (c, d)) = ((a == c) && (((b : Int) == (d : Int)) && true)) := by simp only [spD, PyData.eqv, PyData.eqvAll]
  rw [e]
  by_cases h : ((a, b) : Spot) = (c, d)
  · cases h
    simp
  · rw [decide_eq_false h]
    by_cases h1 : a = c
    · by_cases h2 : b = d
      · exact absurd (by rw [h1, h2]) h
      · have q : ((b : Int) == (d : Int)) = false := beq_eq_false_iff_ne.mpr (by omega)
        rw [q, Bool.false_and, Bool.and_false]
    · have q : (a == c) = false := beq_eq_false_iff_ne.mpr h1
      rw [q, Bool.false_and]
theorem spDs_any (ss : List Spot) (s : Spot) : ((ss.map spD).any fun z => PyData.eqv z (spD s)) = decide (s ∈ ss) := by
  induction ss with
  | nil => simp
  | cons z zs ih =>
    rw [List.map_cons, List.any_cons, ih, spD_eqv]
    by_cases h1 : z = s
    · simp [h1]
    · have h2 : s ≠ z := fun e => h1 e.symm
      simp [h1, h2]
theorem dp_spots {K : PySem.W.Frag} {H : Hp} : ∀ {ts : List V} {ss : List Spot}, Paired (RelS H) ts ss → DpAll K H ts (ss.map spD)
  | _, _, .nil => .nil
  | _, _, .cons h t => by
    obtain ⟨p, rfl, e⟩ := h
    exact .cons (.tup (SqT.of e) (.cons (.str _) (.cons (.int _) .nil))) (dp_spots t)
theorem spots_nodup : ∀ {ks : List KP}, (ks.map (·.1)).Nodup → (spotsOf ks).Nodup
  | [], _ => List.nodup_nil
  | k :: ks, h => by
    have h2 := List.nodup_cons.mp h
    show ((List.range k.2.length).map (fun i => (k.1, i)) ++ spotsOf ks).Nodup
    rw [List.nodup_append]
    refine ⟨?_, spots_nodup h2.2, ?_⟩
    · rw [List.nodup_iff_pairwise_ne, List.pairwise_map]
      exact (List.nodup_iff_pairwise_ne.mp List.nodup_range).imp fun h e => h (Prod.mk.inj e).2
    · intro x hx y hy e
      obtain ⟨i, _, rfl⟩ := List.mem_map.mp hx
      subst e
      obtain ⟨q, hq, hy⟩ := List.mem_flatMap.mp hy
      obtain ⟨j, _, e⟩ := List.mem_map.mp hy
      exact h2.1 (List.mem_map.mpr ⟨q, hq, (Prod.mk.inj e).1⟩)
theorem sub_filter {ss zs : List Spot} (h : ss.Sublist zs) : zs.Nodup → zs.filter (fun z => decide (z ∈ ss)) = ss := by
  induction h with
  | slnil => intro _; rfl
  | cons a h ih =>
    intro nd
    have n2 := List.nodup_cons.mp nd
    have : a ∉ _ := fun q => n2.1 (h.subset q)
    rw [List.filter_cons_of_neg (by simpa using this)]
    exact ih n2.2
  | cons_cons a h ih =>
    rename_i l1 l2
    intro nd
    have n2 := List.nodup_cons.mp nd
    rw [List.filter_cons_of_pos (by simp)]
    have e : l2.filter (fun z => decide (z ∈ a :: l1)) = l2.filter (fun z => decide (z ∈ l1)) := by
      refine List.filter_congr fun z hz => ?_
      have : z ≠ a := fun q => n2.1 (q ▸ hz)
      simp [this]
    rw [e, ih n2.2]
theorem names_strOk : ∀ p ∈ namePool, PyData.strOk p = true := by decide +kernel
theorem spots_ok {L : Lore} (ok : LoreOk L) : SpOk (spotsOf L.kps) := fun s hs => by
  obtain ⟨kq, hk, hs⟩ := List.mem_flatMap.mp hs
  obtain ⟨i, _, rfl⟩ := List.mem_map.mp hs
  exact names_strOk _ (ok.kp kq hk)
theorem paired_fm {H : Hp} (ss : List Spot) : ∀ ys : List (V × Spot), (∀ z ∈ ys, RelS H z.1 z.2) → Paired (RelS H) (ys.filterMap fun y => if y.2 ∈ ss then some y.1 else none) ((ys.map (·.2)).filter fun z => decide (z ∈ ss))
  | [], _ => .nil
  | y :: ys, h => by
    have ih := paired_fm ss ys fun z hz => h z (List.mem_cons_of_mem _ hz)
    by_cases m : y.2 ∈ ss
    · rw [List.filterMap_cons, if_pos m, List.map_cons, List.filter_cons_of_pos (by simpa using m)]
      exact .cons (h y List.mem_cons_self) ih
    · rw [List.filterMap_cons, if_neg m, List.map_cons, List.filter_cons_of_neg (by simpa using m)]
      exact ih
section
variable {P : Program} {w : World} {K : PySem.W.Frag} {mg : Str → Option Value} {base : Heap} {f : Addr} {fd : FuncData}
/-! ### is_integer, is_row, is_sum -/
def spIsInt : Sp := fun vs H Q _ => ∃ i : Int, vs = [.int i] ∧ Q (.bl true) H
theorem scIsInt : FnScope ["value"] ["value"] (defScope sIsInt) := ⟨rfl, rfl, rfl, by decide +kernel, rfl, by decide +kernel, by decide +kernel⟩
theorem ok_isInt (F : Fun K "is_integer" "is_integer" sIsInt f fd) (T : Bl mg) (hB : mg "bool" = none) : FnOk P w K mg base CX0 1 f fd ["value"] spIsInt := by
  refine F.ok scIsInt (fun vs H Q E h => ?_) (fun cdv A outer s H vs Q E hr h => ?_)
  · obtain ⟨i, rfl, _⟩ := h
    rfl
  · obtain ⟨i, rfl, k⟩ := h
    refine ⟨_, pss_one (ps_ret (pe_and (pe_callB call_isi (by rfl) T.isin boot_isinstance (pa_cons (pv 0) (pa_cons (pe_bltn (v := .ty "int") (by rfl) T.int rfl rfl) pa_nil)))
      (pe_one (pe_not (pe_callB call_isi (by rfl) T.isin boot_isinstance (pa_cons (pv 0) (pa_cons (pe_bltn (v := .ty "bool") (by rfl) hB rfl rfl) pa_nil))))))), ?_⟩
    refine ⟨_, rfl, _, _, _, _, true, rfl, .ty _, .base (.int _), by rfl, _, rfl, iteT ?_⟩
    exact ⟨_, rfl, _, _, _, _, false, rfl, .ty _, .base (.int _), by rfl, _, rfl, k⟩
def spIsRow : Sp := fun vs H Q _ => ∃ (t : Addr) (xs : List V) (n : Int), vs = [.ref t, .int n] ∧ H t = some (.tup xs) ∧ Q (.bl (decide (V.int xs.length = V.int n))) H
theorem scIsRow : FnScope ["value", "many"] ["value", "many"] (defScope sIsRow) := ⟨rfl, rfl, rfl, by decide +kernel, rfl, by decide +kernel, by decide +kernel⟩
theorem ok_isRow (F : Fun K "is_row" "is_row" sIsRow f fd) (T : Bl mg) (Cc : Cn mg) : FnOk P w K mg base CX0 1 f fd ["value", "many"] spIsRow := by
  refine F.ok scIsRow (fun vs H Q E h => ?_) (fun cdv A outer s H vs Q E hr h => ?_)
  · obtain ⟨t, xs, n, rfl, _⟩ := h
    rfl
  · obtain ⟨t, xs, n, rfl, ht, k⟩ := h
    refine ⟨_, pss_one (ps_ret (pe_and (pe_callB call_isi (by rfl) T.isin boot_isinstance (pa_cons (pv 0) (pa_cons (pe_bltn (v := .ty "tuple") (by rfl) Cc.tuple rfl rfl) pa_nil)))
      (pe_one (pe_cmpR op_eq (pe_callB call_len_seq (by rfl) T.len PySem.boot_len (pa_cons (pv 0) pa_nil)) (pv 1) (nomark _))))), ?_⟩
    refine ⟨_, rfl, _, _, _, _, true, rfl, .ty _, .base (.tup ht), by rfl, _, rfl, iteT ?_⟩
    exact ⟨_, rfl, t, _, rfl, .inr (SqT.of ht), _, rfl, rfl, k⟩
end
end K6
set_option Elab.async false
set_option linter.all false
set_option maxRecDepth 100000
set_option maxHeartbeats 4000000
set_option pp.maxSteps 1200
set_option pp.deepTerms false
namespace K6
open PySem PySem.Spec PyProof.Rows L2 Lk
/-! ### texts that can be laid -/
theorem strOk_of {x : Str} (h : ∀ c ∈ TL.tl x, c < 0x110000) : PyData.strOk x = true := by
  unfold PyData.strOk
  rw [Array.all_eq_true_iff_forall_mem]
  intro c hc
  exact decide_eq_true (h c (Array.mem_toList_iff.mpr hc))
theorem of_strOk {x : Str} (h : PyData.strOk x = true) : ∀ c ∈ TL.tl x, c < 0x110000 := fun c hc => by
  unfold PyData.strOk at h
  have := (Array.all_eq_true_iff_forall_mem.mp h) c (Array.mem_toList_iff.mp hc)
  exact of_decide_eq_true this
theorem strOk_join {s : Str} {xs : List Str} (hs : PyData.strOk s = true) (hx : ∀ x ∈ xs, PyData.strOk x = true) : PyData.strOk (Txt.join s xs) = true := strOk_of fun c hc => by
  rcases mem_join hc with h | ⟨x, hm, h⟩
  · exact of_strOk hs c h
  · exact of_strOk (hx x hm) c h
theorem parts_strOk : ∀ p ∈ partPool, PyData.strOk p = true := by decide +kernel
theorem text_strOk {L : Lore} (ok : LoreOk L) : PyData.strOk (textL L) = true := by
  refine strOk_join (by decide +kernel) fun x hx => ?_
  rcases List.mem_cons.mp hx with rfl | hx
  · refine strOk_join (by decide +kernel) fun y hy => ?_
    rcases List.mem_cons.mp hy with rfl | hy
    · decide +kernel
    · exact parts_strOk y (ok.pp y hy)
  · obtain ⟨k, hk, rfl⟩ := List.mem_map.mp hx
    refine strOk_join (by decide +kernel) fun y hy => ?_
    rcases List.mem_cons.mp hy with rfl | hy
    · decide +kernel
    rcases List.mem_cons.mp hy with rfl | hy
    · exact names_strOk _ (ok.kp k hk)
    obtain ⟨p, hp, rfl⟩ := List.mem_map.mp hy
    exact strOk_join (by decide +kernel) fun z hz => parts_strOk z (ok.pp z (((ok.q k hk).2.2 p hp).sub z hz))
theorem nice_parts {L : Lore} (ok : LoreOk L) {zs : List Str} (h : ∀ z ∈ zs, z ∈ L.parts) (hl : zs.length ≤ 4) : Nice (4 * (8 + 1)) 1 (.tuple (strsD zs)) :=
  nice_strs (fun z hz => ⟨parts_strOk z (ok.pp z (h z hz)), Nat.le_trans (part_len z (ok.pp z (h z hz))) (by decide)⟩) hl
theorem names_ok {L : Lore} (ok : LoreOk L) : ∀ z ∈ L.kps.map (·.1), PyData.strOk z = true ∧ z.length ≤ 8 := fun z hz => by
  obtain ⟨k, hk, rfl⟩ := List.mem_map.mp hz
  exact ⟨names_strOk _ (ok.kp k hk), name_len _ (ok.kp k hk)⟩
theorem nice_names {L : Lore} (ok : LoreOk L) : Nice (6 * (8 + 1)) 1 (.tuple (strsD (L.kps.map (·.1)))) := nice_strs (names_ok ok) (by rw [List.length_map]; exact ok.k6)
theorem nice_text {L : Lore} (ok : LoreOk L) : Nice 1000 0 (.str (textL L)) := by
  have := ok.k6
  refine .str (text_strOk ok) (Nat.le_trans (join_le (s := ("\n" : Str)) (n := 7) (by show (L.kps.map lineK).length + 1 ≤ 7; rw [List.length_map]; omega) (rows_len ok)).2 (by decide))
/-! ### pieces as data -/
def rowD (ps : List (List Str)) : PyData := .tuple (ps.map fun p => .tuple (strsD p))
def pcsD (ks : List KP) : PyData := .tuple (ks.map fun k => rowD k.2)
theorem dw_pieces {H : Hp} : ∀ {ts : List V} {ps : List (List Str)}, Pieces H ts ps → DWs H ts (ps.map fun p => .tuple (strsD p))
  | _, _, .nil => .nil
  | _, _, .cons h t => by
    obtain ⟨u, rfl, e⟩ := h
    exact .cons (.tup e (dw_strs _)) (dw_pieces t)
theorem dw_rows {H : Hp} : ∀ {rows : List V} {ks : List KP}, Paired (fun v (k : KP) => ∃ r ts, v = V.ref r ∧ H r = some (.tup ts) ∧ Pieces H ts k.2) rows ks → DWs H rows (ks.map fun k => rowD k.2)
  | _, _, .nil => .nil
  | _, _, .cons h t => by
    obtain ⟨r, ts, rfl, e, p⟩ := h
    exact .cons (.tup e (dw_pieces p)) (dw_rows t)
theorem dw_pcs {H : Hp} {q : Addr} {ks : List KP} (h : PcsAt H q ks) : DW H (.ref q) (pcsD ks) := by
  obtain ⟨rows, e, p⟩ := h
  exact .tup e (dw_rows p)
theorem nice_row {L : Lore} (ok : LoreOk L) {k : KP} (hk : k ∈ L.kps) : Nice (2 * (4 * (8 + 1) + 1)) 2 (rowD k.2) := by
  refine Nice.tup (fun d hd => ?_) (by rw [List.length_map]; exact (ok.q k hk).2.1)
  obtain ⟨p, hp, rfl⟩ := List.mem_map.mp hd
  exact nice_parts ok (((ok.q k hk).2.2 p hp).sub) (piece_len ok hk p hp).1
theorem nice_pcs {L : Lore} (ok : LoreOk L) : Nice (6 * (2 * (4 * (8 + 1) + 1) + 1)) 3 (pcsD L.kps) := by
  refine Nice.tup (fun d hd => ?_) (by rw [List.length_map]; exact ok.k6)
  obtain ⟨k, hk, rfl⟩ := List.mem_map.mp hd
  exact nice_row ok hk
/-! ### the sums are the same -/
theorem spots_sum : ∀ ks : List KP, ((ks.map fun k => (k.2.length : Int)).sum) = ((spotsOf ks).length : Int)
  | [] => rfl
  | k :: ks => by
    have ih := spots_sum ks
    show (k.2.length : Int) + (ks.map fun k => (k.2.length : Int)).sum = (((List.range k.2.length).map fun i => (k.1, i)) ++ spotsOf ks).length
    rw [ih, List.length_append, List.length_map, List.length_range]
    omega
theorem pieces_flat {L : Lore} (ok : LoreOk L) : (spotsOf L.kps).map (pieceOf L) = L.kps.flatMap (·.2) := by
  have go : ∀ ks : List KP, (∀ k ∈ ks, k ∈ L.kps) → (spotsOf ks).map (pieceOf L) = ks.flatMap (·.2) := fun ks => by
    induction ks with
    | nil => intro _; rfl
    | cons k ks ih =>
      intro h
      show ((((List.range k.2.length).map fun i => (k.1, i)) ++ spotsOf ks).map (pieceOf L)) = k.2 ++ ks.flatMap (·.2)
      rw [List.map_append, ih fun q hq => h q (List.mem_cons_of_mem _ hq), List.map_map]
      congr 1
      apply List.ext_getElem?
      intro i
      rw [List.getElem?_map]
      by_cases hi : i < k.2.length
      · rw [List.getElem?_range hi, List.getElem?_eq_getElem hi]
        show some (pieceOf L (k.1, i)) = _
        unfold pieceOf
        dsimp only
        rw [find_at ok.kn (h k List.mem_cons_self)]
        simp [hi]
      · rw [List.getElem?_eq_none (by rw [List.length_range]; omega), List.getElem?_eq_none (by omega)]
        rfl
  exact go L.kps fun _ h => h
theorem piece_ok {L : Lore} (ok : LoreOk L) {s : Spot} (h : s ∈ spotsOf L.kps) : PieceOk L.parts (pieceOf L s) := by
  obtain ⟨j, kq, hj, _, e2⟩ := piece_of ok h
  exact (ok.q kq (List.mem_of_getElem? hj)).2.2 _ (List.mem_of_getElem? e2)
/-! ### answers -/
theorem bits_ok (bs : List Str) (h : bs.length ≤ 2) (hb : ∀ b ∈ bs, b = "0" ∨ b = "1") : PyData.strOk (Txt.join "" bs) = true ∧ (Txt.join "" bs).length ≤ 8 := by
  match bs, h, hb with
  | [], _, _ => exact ⟨by decide +kernel, by decide +kernel⟩
  | [a], _, hb =>
    rcases hb a (by simp) with rfl | rfl <;> exact ⟨by decide +kernel, by decide +kernel⟩
  | [a, b], _, hb =>
    rcases hb a (by simp) with rfl | rfl <;> rcases hb b (by simp) with rfl | rfl <;> exact ⟨by decide +kernel, by decide +kernel⟩
  | _ :: _ :: _ :: _, h, _ => exact absurd h (by simp)
theorem nice_answer {L : Lore} (ok : LoreOk L) {k : KP} (hk : k ∈ L.kps) (z : Str) : Nice 8 0 (.str (answerS L k z)) := by
  obtain ⟨h1, h2⟩ := bits_ok (k.2.map fun p => bitS (onesN L p z)) (by rw [List.length_map]; exact (ok.q k hk).2.1) fun b hb => by
    obtain ⟨p, _, rfl⟩ := List.mem_map.mp hb
    unfold bitS
    split
    · exact .inr rfl
    · exact .inl rfl
  exact .str h1 h2
end K6
set_option Elab.async false
set_option linter.all false
set_option maxHeartbeats 4000000
namespace K6
open PySem PySem.Spec PyProof.Rows L2 Lk
/-! ### answers by vectors -/
def ansV (L : Lore) (k : KP) (v : Vec) : Vec := k.2.map fun p => dot (vecP L.parts p) v
theorem bitS_dot {L : Lore} {p : List Str} {v : Vec} (h : v.length = L.parts.length) : bitS (onesN L p (stv v)) = stv [dot (vecP L.parts p) v] := by
  unfold bitS onesN
  rw [tl_stv, dot_ones _ _ h.symm]
  by_cases m : ((L.parts.zip (v.map bC)).filter fun pc => decide (pc.2 = 49 ∧ pc.1 ∈ p)).length % 2 = 1
  · rw [if_pos m, decide_eq_true m, stv_t]
  · rw [if_neg m, decide_eq_false m, stv_f]
theorem joinL_nil : ∀ xs : List (List Nat), TL.joinL [] xs = xs.flatten
  | [] => rfl
  | [p] => by simp [TL.joinL]
  | p :: q :: r => by
    have ih := joinL_nil (q :: r)
    show p ++ ([] ++ TL.joinL [] (q :: r)) = _
    rw [ih]
    rfl
theorem join_nil (xs : List Str) : TL.tl (Txt.join "" xs) = (xs.map TL.tl).flatten := by
  rw [show Txt.join "" xs = Str.join "" xs from StrLaws.glued_eq_join _ _, TL.tl_join]
  exact joinL_nil _
theorem answer_stv {L : Lore} {k : KP} {v : Vec} (h : v.length = L.parts.length) : answerS L k (stv v) = stv (ansV L k v) := by
  refine TL.ext_tl ?_
  unfold answerS ansV
  rw [join_nil, tl_stv, List.map_map, List.map_map]
  have : k.2.map (TL.tl ∘ fun p => bitS (onesN L p (stv v))) = k.2.map fun p => [bC (dot (vecP L.parts p) v)] := List.map_congr_left fun p _ => by
    show TL.tl (bitS (onesN L p (stv v))) = _
    rw [bitS_dot h, tl_stv]
    rfl
  rw [this]
  induction k.2 with
  | nil => rfl
  | cons p ps ih =>
    rw [List.map_cons, List.flatten_cons, ih, List.map_cons]
    rfl
theorem recOk_stv {L : Lore} {v : Vec} (h : v.length = L.parts.length) : RecOk L (stv v) := ⟨by rw [stv_len, h], stv_bits v⟩
theorem recOk_of {L : Lore} {z : Str} (h : RecOk L z) : ∃ v, v.length = L.parts.length ∧ z = stv v := by
  obtain ⟨v, rfl⟩ := stv_of h.2
  exact ⟨v, by rw [← stv_len]; exact h.1, rfl⟩
end K6
set_option Elab.async false
set_option linter.all false
set_option maxRecDepth 100000
set_option maxHeartbeats 4000000
set_option pp.maxSteps 1200
set_option pp.deepTerms false
namespace K6
open PySem PySem.Spec PyProof.Rows L2 Lk
abbrev sAllBits : Stmt := top 17
abbrev sIsLot : Stmt := top 22
abbrev sRefLot : Stmt := top 23
abbrev sRecs : Stmt := top 41
abbrev sSpotsOf : Stmt := top 47
section
variable {P : Program} {w : World} {K : PySem.W.Frag} {mg : Str → Option Value} {base : Heap} {f : Addr} {fd : FuncData}
/-! ### is_told -/
/-! ### all_bits, records -/
def spAllBits : Sp := fun vs H Q _ => ∃ n : Nat, vs = [.int (n : Int)] ∧ n ≤ 4 ∧ ∀ p H', Same H H' → H p = none → H' p = some (.lst (((vL n).map stv).map V.str)) → Q (.ref p) H'
theorem scAllBits : FnScope ["many", "rows", "_", "row", "sign"] ["many"] (defScope sAllBits) := ⟨rfl, rfl, rfl, by decide +kernel, rfl, by decide +kernel, by decide +kernel⟩
theorem ok_allBits (F : Fun K "all_bits" "all_bits" sAllBits f fd) (T : Bl mg) : FnOk P w K mg base CX0 1 f fd ["many"] spAllBits := by
  refine F.ok scAllBits (fun vs H Q E h => ?_) (fun cdv A outer s H vs Q E hr h => ?_)
  · obtain ⟨n, rfl, _⟩ := h
    rfl
  · obtain ⟨n, rfl, n4, k⟩ := h
    have nd := scAllBits.nd
    refine ⟨_, pss_cons (ps_set (i := 1) nd rfl (.inl rfl) (pe_lst (pa_cons pe_str pa_nil)))
      (pss_cons (ps_for PassesOwn.never rfl (pi_range1 rfl T.range (pa_cons (pv 0) pa_nil)) (pg_name (i := 2) nd rfl (.inl rfl))
          (pss_one (ps_setLc2 (i := 1) (own := [("row", 3), ("sign", 4)]) (vs1 := [4]) (g := gName 3) (tt := tYes) (wi1 := iStr (tC (.str "01"))) (g1 := gName 4) (tt1 := tYes) (te := tOp rAddStr (tVar 3) (tVar 4)) rfl nd rfl rfl (sw_true rfl rfl rfl (by decide +kernel))
            (pi_list (pv 1)) (blkOk_by (N := ["many", "rows", "_", "row", "sign"]) (sc := defScope sAllBits) (by decide +kernel)) (by decide)
            (fun _ _ _ _ _ => pg_name (i := 3) nd rfl (.inl rfl)) (fun _ _ _ _ _ => pts_nil) (fun _ _ _ _ _ => pi_str pe_str) (fun _ _ _ _ _ => pg_name (i := 4) nd rfl (.inl rfl)) (fun _ _ _ _ _ => pts_nil) (fun _ _ _ _ _ => pe_op op_add_str (pv 3) (pv 4)))))
        (pss_one (ps_ret (pv 1)))), ?_⟩
    refine ⟨few_ok rfl, fun l nl => ?_⟩
    have s1 : Same H (upd H l (.lst [.str ""])) := same_new nl
    have el : upd H l (.lst [.str ""]) l = some (.lst [.str ""]) := upd_same
    generalize upd H l (.lst [.str ""]) = H1 at s1 el
    refine ⟨_, rfl, _, rfl, by omega, by omega, for_range (lo := 0) (n := ((n : Nat) : Int).toNat) (fun i σ H' => ∃ (fl : Addr) (u v x : Option V), σ = [some (.int (n : Int)), some (.ref fl), u, v, x] ∧ H fl = none ∧ H' fl = some (.lst (((vL i).map stv).map V.str)) ∧ Same H H') ?_ ?_ ?_⟩
    · exact ⟨l, none, none, none, rfl, nl, by rw [el, ← stv_nil]; rfl, s1⟩
    · rintro i σ H' hi ⟨fl, u, v, x, rfl, nf, ef, ss⟩
      have i3 : i ≤ 3 := by omega
      have zl : (vL i).length ≤ 8 := by
        rw [vL_len]
        exact Nat.le_trans (Nat.pow_le_pow_right (by decide) i3) (by decide)
      have vz : ((vL i).map stv).map V.str = (vL i).map fun v => V.str (stv v) := by rw [List.map_map]; rfl
      rw [vz] at ef
      refine ⟨_, rfl, fl, rfl, ⟨_, SqL.of ef⟩, fun D nD => ?_⟩
      refine in_it (walk_list (a := fl) (xs := (vL i).map fun v => V.str (stv v))) (fun j H2 => H2 D = some (.lst ((((vL i).take j).flatMap two01).map fun v => V.str (stv v))) ∧ Same H' H2) ⟨upd_same, same_new nD⟩ (fun j H2 _ ⟨_, s2⟩ => SqL.of (s2 _ _ ef)) ?_ ?_
      · rintro j y H2 H3 hj ⟨eD, s2⟩ ⟨rfl, hy⟩
        rw [List.length_map] at hj
        obtain ⟨r, hr⟩ : ∃ r, (vL i)[j]? = some r := ⟨_, List.getElem?_eq_getElem hj⟩
        obtain rfl : V.str (stv r) = y := by
          rw [List.getElem?_map, hr] at hy
          exact Option.some.inj hy
        have rl := mem_vL.mp (List.mem_of_getElem? hr)
        refine ⟨rfl, "01", rfl, ?_⟩
        refine in_it (walk_str (z := "01")) (fun m H4 => H4 D = some (.lst ((((vL i).take j).flatMap two01 ++ (two01 r).take m).map fun v => V.str (stv v))) ∧ Same H' H4) ⟨by rw [List.take_zero, List.append_nil]; exact eD, s2⟩ (fun _ _ _ _ => trivial) ?_ ?_
        · rintro m y H4 H5 hm ⟨eD, s4⟩ ⟨rfl, c, hc, rfl⟩
          have m2 : m < 2 := hm
          obtain ⟨b, hb, cb⟩ : ∃ b, (two01 r)[m]? = some (r ++ [b]) ∧ c = bC b := by
            match m, m2, hc with
            | 0, _, hc => exact ⟨false, rfl, (Option.some.inj hc).symm⟩
            | 1, _, hc => exact ⟨true, rfl, (Option.some.inj hc).symm⟩
          have ll : (((vL i).take j).flatMap two01 ++ (two01 r).take m).length ≤ 100 := by
            have : ∀ xs : List Vec, (xs.flatMap two01).length = 2 * xs.length := fun xs => by
              induction xs with
              | nil => rfl
              | cons x xs ih =>
                rw [List.flatMap_cons, List.length_append, ih, List.length_cons]
                show 2 + _ = _
                omega
            rw [List.length_append, this, List.length_take, List.length_take]
            omega
          refine ⟨rfl, _, rfl, _, rfl, _, _, rfl, rfl, ?_, ?_⟩
          · rw [stv_len, sizeLine_eq]
            show r.length + 1 ≤ _
            omega
          refine ⟨_, eD, by rw [List.length_map, sizeLine_eq]; omega, ?_, fun b' o e => ?_⟩
          · rw [upd_same, List.take_add_one, hb, Option.toList_some, ← List.append_assoc]
            have : stv r ++ (⟨#[c]⟩ : Str) = stv (r ++ [b]) := by
              rw [stv_app, cb]
              rfl
            rw [this]
            simp
          · rw [upd_ne (ne_of_none e nD)]
            exact s4 _ _ e
        · rintro H4 ⟨eD, s4⟩
          refine ⟨?_, s4⟩
          rw [eD, List.take_add_one, hr, List.flatMap_append]
          rfl
      · rintro H2 ⟨eD, s2⟩
        rw [List.length_map, List.take_length] at eD
        refine ⟨D, _, _, _, rfl, ss.free nD, ?_, ss.trans s2⟩
        rw [eD, List.map_map]
        rfl
    · rintro σ H' ⟨fl, u, v, x, rfl, nf, ef, ss⟩
      rw [Int.toNat_natCast] at ef
      exact ⟨_, rfl, k fl H' ss nf ef⟩
def spRecs (C CS : Addr) : Sp := fun vs H Q _ => ∃ (x : Addr) (L : Lore), vs = [.ref x] ∧ ShAt H C CS x L ∧ LoreOk L ∧ ∀ p H', Same H H' → H p = none → H' p = some (.lst ((recsL L).map V.str)) → Q (.ref p) H'
theorem scRecs : FnScope ["shelf"] ["shelf"] (defScope sRecs) := ⟨rfl, rfl, rfl, by decide +kernel, rfl, by decide +kernel, by decide +kernel⟩
theorem ok_recs {C CS fS fA : Addr} {fdA : FuncData} (F : Fun K "records" "records" sRecs f fd) (T : Bl mg) (SC : ShC K CS fS) (FA : Fun K "all_bits" "all_bits" sAllBits fA fdA) (bA : Binds K fdA ["many"] []) (mA : mg "all_bits" = some (.ref fA)) : FnOk P w K mg base CX0 2 f fd ["shelf"] (spRecs C CS) := by
  have GA : FnOk P w K mg base CX0 1 fA fdA ["many"] spAllBits := ok_allBits FA T
  refine F.ok scRecs (fun vs H Q E h => ?_) (fun cdv A outer s H vs Q E hr h => ?_)
  · obtain ⟨x, L, rfl, _⟩ := h
    rfl
  · obtain ⟨x, L, rfl, ⟨dx, fs, hx, sf, _⟩, ok, k⟩ := h
    obtain ⟨pa, lp, tpa⟩ := sf.parts
    have p4 := ok.p4
    refine ⟨_, pss_one (ps_ret (pe_call GA hr (by rfl) mA FA.kp bA .nil pass0 (pa_cons (pe_callB call_len_seq (by rfl) T.len PySem.boot_len (pa_cons (pe_fld (pv 0) rfl) pa_nil)) pa_nil))), ?_⟩
    refine ⟨_, rfl, x, CS, dx, fs, .ref pa, rfl, hx, SC.cls, SC.parts, lp, pa, _, rfl, .inr tpa.sq, L.parts.length, by rw [List.length_map]; rfl, p4, fun p H' s n e => k p H' s n e⟩
end
end K6
set_option Elab.async false
set_option linter.all false
set_option maxRecDepth 100000
set_option maxHeartbeats 4000000
/-! Part V: t + u of tuples, t empty or not. -/
namespace Lk
open PySem PySem.Spec PyProof.Rows L2
theorem tuple_add0 (l : Addr) (items : Array Value) (n : Nat) (b : Addr) (items2 : Array Value) (n2 : Nat) (dd dd2 : Option Addr) (sl sl2 : Array (Option Value)) (hc0 : items.isEmpty = true) :
    Meets (Builtin.«tuple.__add__» ⟨[.ref l, .ref b], []⟩) (fun _ R s => s.heap.get? l = some { cls := .type "tuple", dict := dd, data := .seq items n, slots := sl } ∧ s.heap.get? b = some { cls := .type "tuple", dict := dd2, data := .seq items2 n2, slots := sl2 } ∧ R (.ok (.ret (Value.ref b))) { s with heap := s.heap, toks := s.toks }) :=
  .of_wp fun prog w A R s h => by
    obtain ⟨hp, g, d, tk, os⟩ := s; obtain ⟨hl, hb, h⟩ := h; have f1 := PySem.AutoSeq1.idx_int; have f2 := PySem.AutoSeq1.sub_tuple_tuple; have f3 := PySem.AutoSeq1.sub_list_list; have f4 := PySem.AutoSeq1.sub_tuple_list; have f5 := PySem.AutoSeq1.sub_list_tuple
    wp_walk using PySem.AutoSeq1.wpAny_loadPart' hl, PySem.AutoSeq1.wpAny_loadPart' hb; exact ⟨_, rfl, h⟩
theorem cat_tup0 {prog : Program} {w : World} {A : Around} {E : Value → Shared → Prop} {s : Shared} {t b : Addr} {ws : List Value} {Q : Value → Shared → Prop} (ht : IsTup s.heap t #[]) (hb : IsTup s.heap b ws.toArray) (h : Q (.ref b) s) : wpAny (model prog w) A (binaryOp .Add (.ref t) (.ref b)) Q E s := by
  obtain ⟨⟨cls, dd, data, sl⟩, ho, hc, n, hd⟩ := id ht
  obtain ⟨⟨cls2, dd2, data2, sl2⟩, ho2, hc2, n2, hd2⟩ := id hb
  simp only at hc hd hc2 hd2
  subst hc hd hc2 hd2
  exact concat_meets ⟨_, ho, rfl⟩ ⟨_, ho2, rfl⟩ noFill_tuple_add seq_tuple_add PySem.F.slot_tuple_add PySem.F.entry_tuple_add (PySem.F.args_tuple_add_2 _ _)
    (tuple_add0 t _ n b ws.toArray n2 dd dd2 sl sl2 (by simp)) ⟨ho, ho2, h⟩
/-- t + u, u not empty -/
def rCatT2 (K : PySem.W.Frag) : R2 := fun x y H Q => ∃ a b xs ys, x = .ref a ∧ y = .ref b ∧ SqT K H a xs ∧ SqT K H b ys ∧ ys ≠ [] ∧ xs.length + ys.length ≤ sizeLine ∧ (xs = [] → Q (.ref b) H) ∧ (xs ≠ [] → ∀ p, H p = none → Q (.ref p) (upd H p (.tup (xs ++ ys))))
theorem op_catT2 {X : Cx} : OpR X (binaryOp .Add) (rCatT2 X.K) := by
  intro pins s σ H x y v u Q I rx ry h
  obtain ⟨a, b, xs, ys, rfl, rfl, ha, hb, hy, hz, q1, q2⟩ := h
  by_cases hx : xs = []
  · subst hx
    cases rx
    cases ry
    obtain ⟨its, r1, p1, _⟩ := I.tuple ha
    obtain ⟨its2, r2, p2, _⟩ := I.tuple hb
    cases r1
    exact cat_tup0 p1 p2 ⟨.ref b, H, I, rfl, q1 rfl⟩
  · exact op_catT pins s σ H _ _ _ _ Q I rx ry ⟨a, b, xs, ys, rfl, rfl, ha, hb, hx, hz, fun e => absurd e hy, fun _ => q2 hx⟩
end Lk
set_option Elab.async false
set_option linter.all false
set_option maxRecDepth 100000
set_option maxHeartbeats 4000000
set_option pp.maxSteps 1200
set_option pp.deepTerms false
namespace K6
open PySem PySem.Spec PyProof.Rows L2 Lk
theorem sub_filterG {α : Type} [DecidableEq α] {ss zs : List α} (h : ss.Sublist zs) : zs.Nodup → zs.filter (fun z => decide (z ∈ ss)) = ss := by
  induction h with
  | slnil => intro _; rfl
  | cons a h ih =>
    intro nd
    have n2 := List.nodup_cons.mp nd
    rw [List.filter_cons_of_neg (by simpa using fun m => n2.1 (h.subset m))]
    exact ih n2.2
  | @cons_cons l1 l2 a h ih =>
    intro nd
    have n2 := List.nodup_cons.mp nd
    rw [List.filter_cons_of_pos (by simp)]
    have e : l2.filter (fun z => decide (z ∈ a :: l1)) = l2.filter (fun z => decide (z ∈ l1)) := List.filter_congr fun z hz => by
      have : z ≠ a := fun e => n2.1 (e ▸ hz)
      simp [this]
    rw [e, ih n2.2]
theorem paired_fmG {α β : Type} {R : α → β → Prop} (q : β → Bool) : ∀ ys : List (α × β), (∀ z ∈ ys, R z.1 z.2) → Paired R (ys.filterMap fun y => if q y.2 = true then some y.1 else none) ((ys.map (·.2)).filter q)
  | [], _ => .nil
  | y :: ys, h => by
    have ih := paired_fmG q ys fun z hz => h z (List.mem_cons_of_mem _ hz)
    by_cases m : q y.2 = true
    · rw [List.filterMap_cons, if_pos m, List.map_cons, List.filter_cons_of_pos m]
      exact .cons (h y List.mem_cons_self) ih
    · rw [List.filterMap_cons, if_neg m, List.map_cons, List.filter_cons_of_neg m]
      exact ih
theorem strs_inV (z : Str) (ys : List Str) : inV (.str z) (ys.map V.str) = decide (z ∈ ys) := by
  rw [inV_str]
theorem fm_strs (q : Str → Bool) : ∀ zs : List Str, (zs.filterMap fun z => if q z = true then some (V.str z) else none) = (zs.filter q).map V.str
  | [] => rfl
  | z :: zs => by
    have ih := fm_strs q zs
    by_cases m : q z = true
    · rw [List.filterMap_cons, if_pos m, List.filter_cons_of_pos m, List.map_cons, ih]
    · rw [List.filterMap_cons, if_neg m, List.filter_cons_of_neg m, ih]
section
variable {P : Program} {w : World} {K : PySem.W.Frag} {mg : Str → Option Value} {base : Heap} {f : Addr} {fd : FuncData}
/-! ### is_lot, refuse_lot -/
/-- names of keepers as they are drawn -/
structure NmOk (ns : List Str) : Prop where
  nd : ns.Nodup
  k6 : ns.length ≤ 6
  ok : ∀ z ∈ ns, PyData.strOk z = true ∧ z.length ≤ 8
def LotAt (H : Hp) (t : Addr) (ys : List Str) : Prop := H t = some (.tup (ys.map V.str))
/-- the same, or a tuple that has methods -/
def LotE (H : Hp) (t : Addr) (ys : List Str) : Prop := H t = some (.tup (ys.map V.str)) ∨ TupX H t (ys.map V.str)
theorem LotE.same {H H' : Hp} {t : Addr} {ys : List Str} (h : LotE H t ys) (s : Same H H') : LotE H' t ys := h.elim (fun h => .inl (s _ _ h)) fun h => .inr (h.same s)
theorem LotE.sq {K : PySem.W.Frag} {H : Hp} {t : Addr} {ys : List Str} (h : LotE H t ys) : SqT K H t (ys.map V.str) := h.elim (fun h => SqT.of h) fun h => h.sq
theorem LotE.ty {K : PySem.W.Frag} {H : Hp} {t : Addr} {ys : List Str} (h : LotE H t ys) : TyX K H (.ref t) (.type "tuple") := h.elim (fun h => .base (.tup h)) fun h => isi_tup h
def spIsLot (C : Addr) : Sp := fun vs H Q _ => ∃ (c t : Addr) (ns ys : List Str), vs = [.ref c, .ref t] ∧ CircAt H C c ns ∧ LotE H t ys ∧ ys.Sublist ns ∧ NmOk ns ∧ ∀ H', Same H H' → Q (.bl true) H'
theorem scIsLot : FnScope ["circle", "value", "name"] ["circle", "value"] (defScope sIsLot) := ⟨rfl, rfl, rfl, by decide +kernel, rfl, by decide +kernel, by decide +kernel⟩
theorem ok_isLot {C fC : Addr} (F : Fun K "is_lot" "is_lot" sIsLot f fd) (T : Bl mg) (Cc : Cn mg) (CC : CircC K C fC) : FnOk P w K mg base CX0 1 f fd ["circle", "value"] (spIsLot C) := by
  refine F.ok scIsLot (fun vs H Q E h => ?_) (fun cdv A outer s H vs Q E hr h => ?_)
  · obtain ⟨c, t, ns, ys, rfl, _⟩ := h
    rfl
  · obtain ⟨c, t, ns, ys, rfl, ⟨cdx, nm, ec, en⟩, ht, sub, nok, k⟩ := h
    have nd := scIsLot.nd
    refine ⟨_, pss_one (ps_ret (pe_and (pe_callB call_isi (by rfl) T.isin boot_isinstance (pa_cons (pv 1) (pa_cons (pe_bltn (v := .ty "tuple") (by rfl) Cc.tuple rfl rfl) pa_nil)))
      (pe_one (pe_cmpR (op_eqD (room64 hr)) (pv 1) (pe_tupleOf (by rfl) Cc.tuple (pe_lc (own := [("name", 2)]) (g := gName 2) (tt := tTest (tOp (rIn K false) (tVar 2) (tVar 1))) (te := tVar 2) rfl nd (pi_tup (pe_fld (pv 0) rfl))
        (blkOk_by (N := ["circle", "value", "name"]) (sc := defScope sIsLot) (by decide +kernel)) (fun _ _ _ _ _ => pg_name (i := 2) nd rfl (.inl rfl)) (fun _ _ _ _ _ => pts_one (pt_cmpR op_in_seq (pv 2) (pv 1) rfl)) (fun _ _ _ _ _ => pv 2))) (nomark _))))), ?_⟩
    refine ⟨_, rfl, _, _, _, _, true, rfl, .ty _, ht.ty, by rfl, _, rfl, iteT ?_⟩
    refine ⟨_, rfl, _, rfl, c, C, cdx, _, .ref nm, rfl, ec, CC.cls, CC.nm, rfl, nm, rfl, ⟨_, en.sq⟩, fun D nD => lc_fm (walk_tup (a := nm) (xs := ns.map V.str)) ns (fun z => if decide (z ∈ ys) = true then some (V.str z) else none) (by rw [List.length_map]) (by rw [List.length_map]; have := nok.k6; omega) nD (fun H s => (en.same s).sq) ?_ ?_⟩
    · rintro i u z H2 H2' R Rn hz s2 ⟨rfl, hu⟩ k1 k2
      obtain rfl : V.str z = u := by
        rw [List.getElem?_map, hz] at hu
        exact Option.some.inj hu
      refine ⟨rfl, _, rfl, _, rfl, t, _, rfl, .inr ((ht.same s2).sq), rfl, flat_strs _, _, rfl, ?_⟩
      rw [if_neg (by decide), strs_inV]
      by_cases h : z ∈ ys
      · exact iteA (decide_eq_true h) ⟨_, rfl, k1 _ _ (if_pos (decide_eq_true h)) (Same.refl _)⟩
      · exact iteB (decide_eq_false h) (k2 _ (if_neg (by simpa using h)) (Same.refl _))
    · intro H2 s2 eD
      rw [fm_strs, sub_filterG sub nok.nd] at eD
      have yo : ∀ z ∈ ys, PyData.strOk z = true ∧ z.length ≤ 8 := fun z hz => nok.ok z (sub.subset hz)
      have sh := (nice_strs (m := 6) yo (Nat.le_trans sub.length_le nok.k6)).shaped (by decide)
      refine .inl ⟨D, _, rfl, SqL.of eD, fun q nq => ?_⟩
      have s3 : Same H2 (upd H2 q (.tup (ys.map V.str))) := same_new nq
      refine ⟨.tuple (strsD ys), .tuple (strsD ys), .tup (((ht.same s2).same s3).sq) (dp_strs ys), .tup (SqT.of upd_same) (dp_strs ys), sh, sh, ?_⟩
      have e : PyData.eqv (.tuple (strsD ys)) (.tuple (strsD ys)) = true := SeqAt.eqv_refl _ (SeqAt.canLay_of_shaped sh)
      rw [e]
      exact k _ (s2.trans s3)
def spRefLot (C : Addr) : Sp := fun vs H Q _ => ∃ (c t : Addr) (ns ys : List Str), vs = [.ref c, .ref t] ∧ CircAt H C c ns ∧ LotE H t ys ∧ ys.Sublist ns ∧ NmOk ns ∧ ∀ H', Same H H' → Q .non H'
theorem scRefLot : FnScope ["circle", "value"] ["circle", "value"] (defScope sRefLot) := ⟨rfl, rfl, rfl, by decide +kernel, rfl, by decide +kernel, by decide +kernel⟩
theorem ok_refLot {C fC f1 : Addr} {fd1 : FuncData} (F : Fun K "refuse_lot" "refuse_lot" sRefLot f fd) (T : Bl mg) (Cc : Cn mg) (CC : CircC K C fC) (F1 : Fun K "is_lot" "is_lot" sIsLot f1 fd1) (b1 : Binds K fd1 ["circle", "value"] []) (m1 : mg "is_lot" = some (.ref f1)) :
    FnOk P w K mg base CX0 2 f fd ["circle", "value"] (spRefLot C) := by
  have G1 : FnOk P w K mg base CX0 1 f1 fd1 ["circle", "value"] (spIsLot C) := ok_isLot F1 T Cc CC
  refine F.ok scRefLot (fun vs H Q E h => ?_) (fun cdv A outer s H vs Q E hr h => ?_)
  · obtain ⟨c, t, ns, ys, rfl, _⟩ := h
    rfl
  · obtain ⟨c, t, ns, ys, rfl, hc, ht, sub, nok, k⟩ := h
    refine ⟨_, pss_one (ps_if (pt_not (pt_val (pe_call G1 hr (by rfl) m1 F1.kp b1 .nil pass0 (pa_cons (pv 0) (pa_cons (pv 1) pa_nil))))) pss_no pss_nil), ?_⟩
    exact ⟨_, rfl, _, rfl, c, t, ns, ys, rfl, hc, ht, sub, nok, fun H1 s1 => ⟨_, rfl, iteB rfl (k H1 s1)⟩⟩
/-! ### spots_of -/
def spSpotsOf (C CS : Addr) : Sp := fun vs H Q _ => ∃ (x t : Addr) (L : Lore) (ys : List Str), vs = [.ref x, .ref t] ∧ ShAt H C CS x L ∧ LoreOk L ∧ LotAt H t ys ∧
  ∀ p ts H', Same H H' → H' p = some (.tup ts) → Paired (RelS H') ts ((spotsOf L.kps).filter fun s => decide (s.1 ∈ ys)) → Q (.ref p) H'
theorem scSpotsOf : FnScope ["shelf", "lot", "spot"] ["shelf", "lot"] (defScope sSpotsOf) := ⟨rfl, rfl, rfl, by decide +kernel, rfl, by decide +kernel, by decide +kernel⟩
theorem ok_spotsOf {C CS fS : Addr} (F : Fun K "spots_of" "spots_of" sSpotsOf f fd) (T : Bl mg) (Cc : Cn mg) (SC : ShC K CS fS) : FnOk P w K mg base CX0 1 f fd ["shelf", "lot"] (spSpotsOf C CS) := by
  refine F.ok scSpotsOf (fun vs H Q E h => ?_) (fun cdv A outer s H vs Q E hr h => ?_)
  · obtain ⟨x, t, L, ys, rfl, _⟩ := h
    rfl
  · obtain ⟨x, t, L, ys, rfl, sh, ok, ht, k⟩ := h
    obtain ⟨dx, fs, hx, sf, _, ⟨pS, us, lS, eS, pS2, _⟩⟩ := id sh
    have nd := scSpotsOf.nd
    have ht : H t = some (.tup (ys.map V.str)) := ht
    obtain ⟨zs, y1, y2, y3⟩ := paired_zip pS2
    have yl : zs.length ≤ 12 := by
      have h2 := spots_len L.kps fun k hk => (ok.q k hk).2.1
      have := ok.k6
      rw [← y2, List.length_map] at h2
      omega
    have ul : us.length = zs.length := by rw [← y1, List.length_map]
    refine ⟨_, pss_one (ps_ret (pe_tupleOf (by rfl) Cc.tuple (pe_lc (own := [("spot", 2)]) (g := gName 2) (tt := tTest (tOp (rIn K false) (tOp (rIxT K) (tVar 2) (tC (.int 0))) (tVar 1))) (te := tVar 2) rfl nd (pi_tup (pe_fld (pv 0) rfl))
        (blkOk_by (N := ["shelf", "lot", "spot"]) (sc := defScope sSpotsOf) (by decide +kernel)) (fun _ _ _ _ _ => pg_name (i := 2) nd rfl (.inl rfl)) (fun _ _ _ _ _ => pts_one (pt_cmpR op_in_seq (pe_ix ix_tup (pv 2) pe_int (fun _ _ => rfl)) (pv 1) rfl)) (fun _ _ _ _ _ => pv 2)))), ?_⟩
    refine ⟨_, rfl, x, CS, dx, fs, .ref pS, rfl, hx, SC.cls, SC.spots, lS, pS, rfl, ⟨_, SqT.of eS⟩, fun D nD => lc_fm (walk_tup (a := pS) (xs := us)) zs (fun y => if decide (y.2.1 ∈ ys) = true then some y.1 else none) ul.symm (by omega) nD (fun H s => sqT_same s (SqT.of eS)) ?_ ?_⟩
    · rintro i u ⟨yv, y⟩ H2 H2' R Rn hy s2 ⟨rfl, hu⟩ k1 k2
      obtain ⟨tt, et, eh⟩ := y3 _ (List.mem_of_getElem? hy)
      dsimp only at et eh
      subst et
      obtain rfl : V.ref tt = u := by
        rw [← y1, List.getElem?_map, hy] at hu
        exact Option.some.inj hu
      refine ⟨rfl, _, rfl, tt, _, _, .str y.1, rfl, rfl, SqT.of (s2 _ _ eh), at0 rfl, _, rfl, t, _, rfl, .inr (SqT.of (s2 _ _ ht)), rfl, flat_strs _, _, rfl, ?_⟩
      rw [if_neg (by decide), strs_inV]
      by_cases h : y.1 ∈ ys
      · exact iteA (decide_eq_true h) ⟨_, rfl, k1 _ _ (if_pos (decide_eq_true h)) (Same.refl _)⟩
      · exact iteB (decide_eq_false h) (k2 _ (if_neg (by simpa using h)) (Same.refl _))
    · intro H2 s2 eD
      have pf := paired_fmG (R := RelS H2) (fun s : Spot => decide (s.1 ∈ ys)) zs fun z hz => RelS.keep _ _ _ _ (.of s2) (y3 z hz)
      rw [y2] at pf
      refine .inl ⟨D, _, rfl, SqL.of eD, fun q nq => ?_⟩
      exact k q _ _ (s2.trans (same_new nq)) upd_same (Paired.mapP pf fun v s r => RelS.keep _ _ _ _ (.of (same_new nq)) r)
end
end K6
set_option Elab.async false
set_option linter.all false
set_option maxRecDepth 100000
set_option maxHeartbeats 4000000
set_option pp.maxSteps 1200
set_option pp.deepTerms false
namespace K6
open PySem PySem.Spec PyProof.Rows L2 Lk
abbrev sSpan : Stmt := top 48
abbrev RowS := RowV Spot
abbrev TabS := Tab Spot
def RelR (H : Hp) (v : V) (r : RowS) : Prop := ∃ t u, v = V.ref t ∧ H t = some (.tup [.ref u, .int ((toN r.2 : Nat) : Int)]) ∧ H u = some (.tup [.str r.1.1, .int (r.1.2 : Int)])
theorem RelR.keep (H H' : Hp) (v : V) (r : RowS) (k : Keep H H') (h : RelR H v r) : RelR H' v r := by
  obtain ⟨t, u, e, h1, h2⟩ := h
  exact ⟨t, u, e, k _ _ h1 (fun xs z => by cases z), k _ _ h2 (fun xs z => by cases z)⟩
def RelE (H : Hp) (kv : L2.Key × V) (e : Vec × List RowS) : Prop := kv.1 = .inl ((toN e.1 : Nat) : Int) ∧ ∃ q us, kv.2 = V.ref q ∧ H q = some (.tup us) ∧ Paired (RelS H) us (e.2.map (·.1))
theorem RelE.tups {H H' : Hp} {kv : L2.Key × V} {e : Vec × List RowS} (k : Tups H H') (h : RelE H kv e) : RelE H' kv e := by
  obtain ⟨h1, q, us, e1, e2, e3⟩ := h
  exact ⟨h1, q, us, e1, k _ _ e2, Paired.mapP e3 fun v s ⟨t, a, b⟩ => ⟨t, a, k _ _ b⟩⟩
theorem tups_keepB {D : Addr} {H H' : Hp} {o : HO} (hD : H D = some o) (no : ∀ xs, o ≠ .tup xs) (k : KeepB D H H') : Tups H H' := fun b xs e => k b _ (fun z => by rw [z, hD] at e; exact no xs (Option.some.inj e)) e
def DictV (H : Hp) (D : Addr) (tb : TabS) : Prop := ∃ kvs, H D = some (.dK kvs) ∧ Paired (RelE H) kvs tb
theorem dk_get {H : Hp} {n : Nat} {kvs : List (L2.Key × V)} {tb : TabS} (pr : Paired (RelE H) kvs tb) (nd : (tb.map (·.1)).Nodup) (ln : ∀ e ∈ tb, e.1.length = n) : ∀ e ∈ tb, ∃ q us, valV kvs (.inl ((toN e.1 : Nat) : Int)) = some (V.ref q) ∧ H q = some (.tup us) ∧ Paired (RelS H) us (e.2.map (·.1)) := by
  induction pr with
  | nil => intro e h; cases h
  | @cons kv e0 kvs tb h pr ih =>
    intro e he
    have n2 := List.nodup_cons.mp nd
    obtain ⟨h1, q, us, e1, e2, e3⟩ := h
    rcases List.mem_cons.mp he with rfl | he
    · exact ⟨q, us, by rw [valV_pos h1, e1], e2, e3⟩
    · have ne : ¬ kv.1 = .inl ((toN e.1 : Nat) : Int) := fun z => by
        rw [h1] at z
        have z2 : toN e0.1 = toN e.1 := Int.ofNat_inj.mp (Sum.inl.inj z)
        have z3 := toN_inj (by rw [ln e0 List.mem_cons_self, ln e (List.mem_cons_of_mem _ he)]) z2
        exact n2.1 (List.mem_map.mpr ⟨e, he, z3.symm⟩)
      obtain ⟨q, us, a, b⟩ := ih n2.2 (fun e h => ln e (List.mem_cons_of_mem _ h)) e he
      exact ⟨q, us, by rw [valV_neg ne]; exact a, b⟩
theorem dk_mem {H : Hp} {n : Nat} {kvs : List (L2.Key × V)} {tb : TabS} (pr : Paired (RelE H) kvs tb) (ln : ∀ e ∈ tb, e.1.length = n) {v : Vec} (hv : v.length = n) : (valV kvs (.inl ((toN v : Nat) : Int))).isSome = decide (v ∈ tb.map (·.1)) := by
  induction pr with
  | nil => rfl
  | @cons kv e0 kvs tb h pr ih =>
    obtain ⟨h1, _⟩ := h
    have ih := ih fun e h => ln e (List.mem_cons_of_mem _ h)
    by_cases z : v = e0.1
    · rw [valV_pos (by rw [h1, z]), z]
      simp
    · have ne : ¬ kv.1 = .inl ((toN v : Nat) : Int) := fun q => by
        rw [h1] at q
        exact z (toN_inj (by rw [ln e0 List.mem_cons_self, hv]) (Int.ofNat_inj.mp (Sum.inl.inj q))).symm
      rw [valV_neg ne, ih]
      have : (v ∈ (e0 :: tb).map (·.1)) ↔ v ∈ tb.map (·.1) := by
        rw [List.map_cons, List.mem_cons]
        exact ⟨fun h => h.resolve_left z, .inr⟩
      simp only [this]
theorem tab_few {n : Nat} {rows : List RowS} {tb : TabS} (h : TbOk n rows tb) : tb.length ≤ 2 ^ n := by
  have := h.rank
  have p : 0 < 2 ^ n := Nat.pow_pos (by decide)
  have k0 : 0 < (kerL n rows).length := by
    rcases Nat.eq_zero_or_pos (kerL n rows).length with z | z
    · rw [z, Nat.mul_zero] at this
      omega
    · exact z
  calc tb.length = tb.length * 1 := (Nat.mul_one _).symm
    _ ≤ tb.length * (kerL n rows).length := Nat.mul_le_mul_left _ k0
    _ = _ := this
section
variable {P : Program} {w : World} {K : PySem.W.Frag} {mg : Str → Option Value} {base : Heap} {f : Addr} {fd : FuncData}
def spSpan : Sp := fun vs H Q _ => ∃ (l : Addr) (ts : List V) (rows : List RowS) (n : Nat), vs = [.ref l] ∧ H l = some (.lst ts) ∧ Paired (RelR H) ts rows ∧ (∀ r ∈ rows, r.2.length = n) ∧ n ≤ 5 ∧ rows.length ≤ 12 ∧
  ∀ D H', Same H H' → H D = none → DictV H' D (tableT n rows) → Q (.ref D) H'
theorem scSpan : FnScope ["rows", "found", "spot", "code", "old"] ["rows"] (defScope sSpan) := ⟨rfl, rfl, rfl, by decide +kernel, rfl, by decide +kernel, by decide +kernel⟩
theorem ok_span (F : Fun K "span" "span" sSpan f fd) (T : Bl mg) (Cc : Cn mg) : FnOk P w K mg base CX0 1 f fd ["rows"] spSpan := by
  refine F.ok scSpan (fun vs H Q E h => ?_) (fun cdv A outer s H vs Q E hr h => ?_)
  · obtain ⟨l, ts, rows, n, rfl, _⟩ := h
    rfl
  · obtain ⟨l, ts, rows, n, rfl, hl, pr, ln, n5, r12, k⟩ := h
    have nd := scSpan.nd
    have hu := hu_of hr
    refine ⟨_, pss_cons (ps_set (i := 1) nd rfl (.inl rfl) (pe_disp (pps_cons pe_int (pe_tup pa_nil) pps_nil) rfl rfl (by simp) (by simp)))
      (pss_cons (ps_for PassesOwn.never rfl (pi_list (pv 0)) (pg_tup rfl (pgs_cons (pg_name (i := 2) nd rfl (.inl rfl)) (pgs_cons (pg_name (i := 3) nd rfl (.inl rfl)) pgs_nil)))
          (pss_one (ps_if (pt_cmp (pc_dnotin hu (pv 3) (pv 1)))
            (pss_one (ps_for PassesOwn.never rfl (pi_list (pe_callTy (call_list_dK rfl) rfl T.list boot_list (pa_cons (pv 1) pa_nil))) (pg_name (i := 4) nd rfl (.inl rfl))
              (pss_one (ps_dput hu (pv 1) (pe_op op_xor (pv 4) (pv 3)) (pe_op op_catT2 (pe_dget hu (pv 1) (pv 4) (fun _ _ => rfl)) (pe_tup (pa_cons (pv 2) pa_nil))) rfl)))) pss_nil)))
        (pss_one (ps_ret (pv 1)))), ?_⟩
    intro D nD
    refine ⟨few_ok rfl, fun e0 ne0 => ?_⟩
    have e0D : e0 ≠ D := fun z => by rw [z, upd_same] at ne0; cases ne0
    have ne0H : H e0 = none := by rw [upd_ne e0D] at ne0; exact ne0
    refine ⟨by rw [upd_ne e0D.symm, upd_same], [(.inl 0, .ref e0)], rfl, by simp, ?_⟩
    have s1 : Same H (upd (upd (upd H D (.dK [])) e0 (.tup [])) D (.dK (mergeK [] [(.inl 0, .ref e0)]))) := fun b o e => by
      rw [upd_ne (ne_of_none e nD), upd_ne (ne_of_none e ne0H), upd_ne (ne_of_none e nD)]
      exact e
    have d1 : DictV (upd (upd (upd H D (.dK [])) e0 (.tup [])) D (.dK (mergeK [] [(.inl 0, .ref e0)]))) D (tableT n (rows.take 0)) :=
      ⟨[(.inl 0, .ref e0)], upd_same, .cons ⟨by rw [toN_zero]; rfl, e0, [], rfl, by rw [upd_ne e0D, upd_same], .nil⟩ .nil⟩
    generalize upd (upd (upd H D (.dK [])) e0 (.tup [])) D (.dK (mergeK [] [(.inl 0, .ref e0)])) = H1 at s1 d1
    refine ⟨_, rfl, l, rfl, ⟨_, SqL.of (s1 _ _ hl)⟩, for_list (xs := ts) (fun i σ H' => ∃ (u v x : Option V), σ = [some (.ref l), some (.ref D), u, v, x] ∧ DictV H' D (tableT n (rows.take i)) ∧ Same H H') ?_ ?_ ?_ ?_⟩
    · exact ⟨none, none, none, rfl, d1, s1⟩
    · rintro i σ H' _ ⟨_, _, _, _, _, ss⟩
      exact SqL.of (ss _ _ hl)
    · rintro i y σ H2 hx ⟨u, v, x, rfl, ⟨kvs, eD, pk⟩, ss⟩
      obtain ⟨r, hr, t, sp, rfl, ht, hs⟩ := paired_put pr hx
      have rl : r.2.length = n := ln r (List.mem_of_getElem? hr)
      have tbo : TbOk n (rows.take i) (tableT n (rows.take i)) := table_ok fun q hq => ln q (List.mem_of_mem_take hq)
      have tbs := tb_step tbo rl
      have nx : tableT n (rows.take (i + 1)) = stepT (tableT n (rows.take i)) r := by
        unfold tableT
        rw [List.take_add_one, hr, Option.toList_some, List.foldl_append]
        rfl
      rw [nx]
      have few := tab_few tbo
      have p5 : 2 ^ n ≤ 32 := Nat.le_trans (Nat.pow_le_pow_right (by decide) n5) (by decide)
      generalize hT : tableT n (rows.take i) = tb at pk tbo tbs few
      refine ⟨t, _, rfl, SqT.of (ss _ _ ht), rfl, _, _, rfl, _, _, rfl, rfl, ?_⟩
      refine ⟨_, rfl, _, rfl, D, _, rfl, DGet.k (k := .inl ((toN r.2 : Nat) : Int)) eD, _, rfl, ?_⟩
      rw [dk_mem pk tbo.len rl]
      by_cases hc : r.2 ∈ tb.map (·.1)
      · refine iteB (by rw [decide_eq_true hc]; rfl) ⟨_, _, _, rfl, ⟨kvs, eD, ?_⟩, ss⟩
        have : stepT tb r = tb := if_pos hc
        rw [this]
        exact pk
      · refine iteA (by rw [decide_eq_false hc]; rfl) ?_
        have st : stepT tb r = tb ++ tb.map fun e => (vx e.1 r.2, e.2 ++ [r]) := if_neg hc
        rw [st] at tbs ⊢
        have kl : kvs.length = tb.length := Paired.length pk
        refine ⟨_, rfl, D, kvs, rfl, eD, fun q nq => ?_⟩
        have qD : q ≠ D := fun z => by rw [z, eD] at nq; cases nq
        have s3 : Same H2 (upd H2 q (.lst (kvs.map fun kv => kV kv.1))) := same_new nq
        have eq3 : upd H2 q (.lst (kvs.map fun kv => kV kv.1)) q = some (.lst (kvs.map fun kv => kV kv.1)) := upd_same
        have eD3 := s3 _ _ eD
        have pk3 : Paired (RelE (upd H2 q (.lst (kvs.map fun kv => kV kv.1)))) kvs tb := Paired.mapP pk fun a b h => h.tups (.of s3)
        have sH3 := ss.trans s3
        generalize upd H2 q (.lst (kvs.map fun kv => kV kv.1)) = H3 at s3 eq3 eD3 pk3 sH3
        refine ⟨q, rfl, ⟨_, SqL.of eq3⟩, for_list (xs := kvs.map fun kv => kV kv.1) (fun j σ H' => ∃ (x : Option V) (kvs' : List (L2.Key × V)), σ = [some (.ref l), some (.ref D), some (.ref sp), some (.int ((toN r.2 : Nat) : Int)), x] ∧ H' q = some (.lst (kvs.map fun kv => kV kv.1)) ∧ H' D = some (.dK kvs') ∧
            Paired (RelE H') kvs' (tb ++ (tb.take j).map fun e => (vx e.1 r.2, e.2 ++ [r])) ∧ Same H H') ?_ ?_ ?_ ?_⟩
        · exact ⟨x, kvs, rfl, eq3, eD3, by rw [List.take_zero, List.map_nil, List.append_nil]; exact pk3, sH3⟩
        · rintro j σ H' _ ⟨_, _, _, h, _⟩
          exact SqL.of h
        · rintro j y σ H4 hy ⟨x, kvs', rfl, eq4, eD4, pk4, s4⟩
          have jl : j < tb.length := by
            have := (List.getElem?_eq_some_iff.mp hy).1
            rw [List.length_map] at this
            omega
          obtain ⟨e, he⟩ : ∃ e, tb[j]? = some e := ⟨_, List.getElem?_eq_getElem jl⟩
          obtain ⟨kv, hkv, hk1, _⟩ := paired_get pk he
          obtain rfl : V.int ((toN e.1 : Nat) : Int) = y := by
            rw [List.getElem?_map, hkv] at hy
            have := Option.some.inj hy
            rw [← this]
            show V.int _ = kV kv.1
            rw [hk1]
            rfl
          have em : e ∈ tb := List.mem_of_getElem? he
          have el : e.1.length = n := tbo.len e em
          -- what is known of the table so far
          have subT : (tb ++ (tb.take (j + 1)).map fun e => (vx e.1 r.2, e.2 ++ [r])).Sublist (tb ++ tb.map fun e => (vx e.1 r.2, e.2 ++ [r])) :=
            List.Sublist.append (List.Sublist.refl _) ((List.take_sublist _ _).map _)
          have nxt : (tb ++ (tb.take (j + 1)).map fun e => (vx e.1 r.2, e.2 ++ [r])) = (tb ++ (tb.take j).map fun e => (vx e.1 r.2, e.2 ++ [r])) ++ [(vx e.1 r.2, e.2 ++ [r])] := by
            rw [List.take_add_one, he, Option.toList_some, List.map_append, List.append_assoc]
            rfl
          have ndn := tbs.nd.sublist (subT.map (·.1))
          rw [nxt, List.map_append, List.nodup_append] at ndn
          have ln4 : ∀ e ∈ tb ++ (tb.take j).map fun e => (vx e.1 r.2, e.2 ++ [r]), e.1.length = n := fun e h => tbs.len e (subT.subset (by rw [nxt]; exact List.mem_append_left _ h))
          obtain ⟨qe, us, ve, he1, he2⟩ := dk_get pk4 ndn.1 ln4 e (List.mem_append_left _ em)
          have vl : (vx e.1 r.2).length = n := vx_len el rl
          have no : valV kvs' (.inl ((toN (vx e.1 r.2) : Nat) : Int)) = none := by
            have := dk_mem pk4 ln4 vl
            rw [decide_eq_false (fun h => ndn.2.2 _ h _ (List.mem_singleton.mpr rfl) rfl)] at this
            cases z : valV kvs' (.inl ((toN (vx e.1 r.2) : Nat) : Int)) with
            | none => rfl
            | some o => rw [z] at this; cases this
          have kl4 : kvs'.length ≤ 64 := by
            have := Paired.length pk4
            rw [List.length_append, List.length_map, List.length_take] at this
            omega
          have ul : us.length ≤ 12 := by
            have h1 := Paired.length he2
            rw [List.length_map] at h1
            have h2 := (tbo.sums e em).1.length_le
            rw [List.length_take] at h2
            omega
          have sp4 := s4 _ _ hs
          -- the new entry
          have fin : ∀ (p : Addr) (H5 : Hp), Same H4 H5 → H5 p = some (.tup (us ++ [.ref sp])) → (∃ a H6, V.ref D = .ref a ∧ DPut H5 a (.int (Builtin.bitXor ((toN e.1 : Nat) : Int) ((toN r.2 : Nat) : Int))) (.ref p) H6 ∧ ∃ (x : Option V) (kvs' : List (L2.Key × V)), [some (V.ref l), some (.ref D), some (.ref sp), some (.int ((toN r.2 : Nat) : Int)), some (.int ((toN e.1 : Nat) : Int))] = [some (.ref l), some (.ref D), some (.ref sp), some (.int ((toN r.2 : Nat) : Int)), x] ∧ H6 q = some (.lst (kvs.map fun kv => kV kv.1)) ∧ H6 D = some (.dK kvs') ∧
              Paired (RelE H6) kvs' (tb ++ (tb.take (j + 1)).map fun e => (vx e.1 r.2, e.2 ++ [r])) ∧ Same H H6) := fun p H5 s5 ep => by
            have eD5 := s5 _ _ eD4
            rw [xor_codes (by rw [el, rl])]
            refine ⟨D, _, rfl, DPut.k (k := .inl ((toN (vx e.1 r.2) : Nat) : Int)) eD5 (by rw [sizeLine_eq]; omega), some _, _, rfl, ?_, upd_same, ?_, fun b o h => ?_⟩
            · rw [upd_ne qD]
              exact s5 _ _ eq4
            · rw [putK_new _ no, nxt]
              have kb : KeepB D H4 (upd H5 D (.dK (kvs' ++ [(.inl ((toN (vx e.1 r.2) : Nat) : Int), .ref p)]))) := fun b o nb h => by
                rw [upd_ne nb]
                exact s5 _ _ h
              have tk := tups_keepB eD4 (fun xs z => by cases z) kb
              have pD : p ≠ D := fun z => by rw [z, eD5] at ep; cases ep
              refine Paired.add (Paired.mapP pk4 fun a b h => h.tups tk) ⟨rfl, p, us ++ [.ref sp], rfl, by rw [upd_ne pD]; exact ep, ?_⟩
              show Paired _ (us ++ [V.ref sp]) ((e.2 ++ [r]).map (·.1))
              rw [List.map_append]
              exact Paired.add (Paired.mapP he2 fun v s ⟨t, a, b⟩ => ⟨t, a, tk _ _ b⟩) ⟨sp, rfl, tk _ _ sp4⟩
            · rw [upd_ne (ne_of_none h nD)]
              exact s5 _ _ (s4 _ _ h)
          refine ⟨_, rfl, _, rfl, D, _, rfl, by rw [← ve]; exact DGet.k (k := .inl ((toN e.1 : Nat) : Int)) eD4, _, rfl, few_ok rfl, fun o no1 => ?_⟩
          have s5 : Same H4 (upd H4 o (.tup [.ref sp])) := same_new no1
          refine ⟨qe, o, us, [.ref sp], rfl, rfl, SqT.of (s5 _ _ he1), SqT.of upd_same, by simp, by rw [sizeLine_eq]; show us.length + 1 ≤ _; omega, fun e0 => ?_, fun _ p np => ?_⟩
          · exact ⟨_, rfl, _, rfl, _, rfl, _, _, rfl, rfl, fin o _ s5 (by rw [e0]; exact upd_same)⟩
          · exact ⟨_, rfl, _, rfl, _, rfl, _, _, rfl, rfl, fin p _ (s5.trans (same_new np)) upd_same⟩
        · rintro σ H4 ⟨x, kvs', rfl, eq4, eD4, pk4, s4⟩
          rw [List.length_map, kl, List.take_length] at pk4
          exact ⟨_, _, _, rfl, ⟨kvs', eD4, pk4⟩, s4⟩
    · rintro σ H2 ⟨u, v, x, rfl, d2, ss⟩
      rw [Paired.length pr, List.take_length] at d2
      exact ⟨_, rfl, k D H2 ss nD d2⟩
end
end K6
set_option Elab.async false
set_option linter.all false
set_option maxRecDepth 100000
set_option maxHeartbeats 4000000
set_option pp.maxSteps 1200
set_option pp.deepTerms false
namespace K6
open PySem PySem.Spec PyProof.Rows L2 Lk
abbrev sReach : Stmt := top 49
/-- spots with the codes of their pieces -/
def rowsC (L : Lore) (ss : List Spot) : List RowS := ss.map fun s => (s, codeS L s)
def tabC (L : Lore) (ss : List Spot) : TabS := tableT L.parts.length (rowsC L ss)
/-- the spots of some keepers -/
def spotsIn (L : Lore) (ys : List Str) : List Spot := (spotsOf L.kps).filter fun s => decide (s.1 ∈ ys)
theorem rowsC_len {L : Lore} {ss : List Spot} : ∀ r ∈ rowsC L ss, r.2.length = L.parts.length := fun r hr => by
  obtain ⟨s, _, rfl⟩ := List.mem_map.mp hr
  exact vecP_len _ _
theorem spots12 {L : Lore} (ok : LoreOk L) : (spotsOf L.kps).length ≤ 12 := by
  have h2 := spots_len L.kps fun k hk => (ok.q k hk).2.1
  have := ok.k6
  omega
theorem nmOk {L : Lore} (ok : LoreOk L) : NmOk (L.kps.map (·.1)) := by
  refine ⟨ok.kn, by rw [List.length_map]; exact ok.k6, fun z hz => ?_⟩
  obtain ⟨k, hk, rfl⟩ := List.mem_map.mp hz
  have h : ∀ p ∈ namePool, PyData.strOk p = true ∧ p.length ≤ 8 := by decide +kernel
  exact h _ (ok.kp k hk)
section
variable {P : Program} {w : World} {K : PySem.W.Frag} {mg : Str → Option Value} {base : Heap} {f : Addr} {fd : FuncData}
/-! ### reach -/
def spReach (C CS : Addr) : Sp := fun vs H Q _ => ∃ (x p : Addr) (L : Lore) (ts : List V) (ss : List Spot), vs = [.ref x, .ref p] ∧ ShAt H C CS x L ∧ LoreOk L ∧ H p = some (.tup ts) ∧ Paired (RelS H) ts ss ∧ ss.Sublist (spotsOf L.kps) ∧
  ∀ D H', Same H H' → DictV H' D (tabC L ss) → Q (.ref D) H'
theorem scReach : FnScope ["shelf", "spots", "spot"] ["shelf", "spots"] (defScope sReach) := ⟨rfl, rfl, rfl, by decide +kernel, rfl, by decide +kernel, by decide +kernel⟩
theorem ok_reach {C CS fS f1 : Addr} {fd1 : FuncData} (F : Fun K "reach" "reach" sReach f fd) (T : Bl mg) (Cc : Cn mg) (SC : ShC K CS fS) (F1 : Fun K "span" "span" sSpan f1 fd1) (b1 : Binds K fd1 ["rows"] []) (m1 : mg "span" = some (.ref f1)) :
    FnOk P w K mg base CX0 2 f fd ["shelf", "spots"] (spReach C CS) := by
  have G1 : FnOk P w K mg base CX0 1 f1 fd1 ["rows"] spSpan := ok_span F1 T Cc
  refine F.ok scReach (fun vs H Q E h => ?_) (fun cdv A outer s H vs Q E hr h => ?_)
  · obtain ⟨x, p, L, ts, ss, rfl, _⟩ := h
    rfl
  · obtain ⟨x, p, L, ts, ss, rfl, sh, ok, hp, pr, sub, k⟩ := h
    obtain ⟨dx, fs, hx, sf, _, _, _, _, _, _, D, kvs, lD, eD, vD⟩ := id sh
    have nd := scReach.nd
    have hu := hu_of hr
    obtain ⟨zs, z1, z2, z3⟩ := paired_zip pr
    have sl : ss.length ≤ 12 := Nat.le_trans sub.length_le (spots12 ok)
    have zl : zs.length = ss.length := by rw [← z2, List.length_map]
    refine ⟨_, pss_one (ps_ret (pe_call G1 hr (by rfl) m1 F1.kp b1 .nil pass0 (pa_cons (pe_lc (own := [("spot", 2)]) (g := gName 2) (tt := tYes) (te := tTup (tCons (tVar 2) (tCons (tDGet (tFld K (tVar 0) "codes") (tVar 2)) tNil))) rfl nd (pi_tup (pv 1))
        (blkOk_by (N := ["shelf", "spots", "spot"]) (sc := defScope sReach) (by decide +kernel)) (fun _ _ _ _ _ => pg_name (i := 2) nd rfl (.inl rfl)) (fun _ _ _ _ _ => pts_nil) (fun _ _ _ _ _ => pe_tup (pa_cons (pv 2) (pa_cons (pe_dget hu (pe_fld (pv 0) rfl) (pv 2) (fun _ _ => rfl)) pa_nil)))) pa_nil))), ?_⟩
    refine ⟨_, rfl, p, rfl, ⟨_, SqT.of hp⟩, fun D1 nD1 => lc_relQ (walk_tup (a := p) (xs := ts)) nD1 zs (·.1) (fun z => ((z.2, codeS L z.2) : RowS)) RelR RelR.keep z1.symm (by omega) (fun H s => sqT_same s (SqT.of hp)) ?_ ?_⟩
    · rintro i ⟨zv, s⟩ H1 R hz s1 kk
      obtain ⟨t, et, eh⟩ := z3 _ (List.mem_of_getElem? hz)
      dsimp only at et eh
      subst et
      have sm : s ∈ ss := by rw [← z2]; exact List.mem_map.mpr ⟨_, List.mem_of_getElem? hz, rfl⟩
      have vs := vD s (sub.subset sm)
      have eh1 := s1 _ _ eh
      refine ⟨rfl, _, rfl, _, rfl, x, CS, dx, fs, .ref D, rfl, s1 _ _ hx, SC.cls, SC.codes, lD, _, rfl, D, _, rfl, by rw [← vs]; exact DGet.t (k := keyS s) (s1 _ _ eD) eh1, few_ok rfl, fun q nq => ?_⟩
      exact kk _ _ (same_new nq) ⟨q, t, rfl, upd_same, same_new nq _ _ eh1⟩
    · intro H1 us s1 eD1 pu
      have pu2 : Paired (RelR H1) us (rowsC L ss) := by
        have e : zs.map (fun z => ((z.2, codeS L z.2) : RowS)) = rowsC L ss := by
          unfold rowsC
          rw [← z2, List.map_map]
          rfl
        rw [← e]
        exact pu
      exact ⟨D1, us, rowsC L ss, L.parts.length, rfl, eD1, pu2, rowsC_len, by have := ok.p4; omega, by unfold rowsC; rw [List.length_map]; exact sl, fun D2 H2 s2 _ d2 => k D2 H2 (s1.trans s2) d2⟩
/-! ### unlike -/
/-! ### is_sum_of -/
end
end K6
set_option Elab.async false
set_option linter.all false
set_option maxRecDepth 100000
set_option maxHeartbeats 4000000
set_option pp.maxSteps 1200
set_option pp.deepTerms false
namespace K6
open PySem PySem.Spec PyProof.Rows L2 Lk
abbrev sIsLost : Stmt := top 53
abbrev sIsSilent : Stmt := top 52
abbrev sLostRec : Stmt := top 54
theorem one49 : ("1" : Str) = ⟨#[49]⟩ := by decide +kernel
theorem in_stv (v : Vec) : decide (49 ∈ (stv v).cps.toList) = decide (true ∈ v) := by
  have h : (49 ∈ (stv v).cps.toList) ↔ true ∈ v := by
    have : (stv v).cps.toList = v.map bC := tl_stv v
    rw [this, List.mem_map]
    constructor
    · rintro ⟨b, hb, e⟩
      cases b with
      | true => exact hb
      | false => cases e
    · intro h
      exact ⟨true, h, rfl⟩
  simp only [h]
theorem join_stv (vs : List Vec) : Txt.join "" (vs.map stv) = stv vs.flatten := by
  refine TL.ext_tl ?_
  rw [join_nil, tl_stv, List.map_map]
  induction vs with
  | nil => rfl
  | cons v vs ih =>
    rw [List.map_cons, List.flatten_cons, ih, List.flatten_cons, List.map_append]
    rfl
/-- whether a record is 1 somewhere while the answers of the keepers are all 0 -/
def lostB (L : Lore) (ks : List KP) (v : Vec) : Bool := decide (true ∈ v) && !decide (true ∈ ks.flatMap fun k => ansV L k v)
theorem ansV_len (L : Lore) (k : KP) (v : Vec) : (ansV L k v).length = k.2.length := List.length_map ..
section
variable {P : Program} {w : World} {K : PySem.W.Frag} {mg : Str → Option Value} {base : Heap} {f : Addr} {fd : FuncData}
/-! ### is_silent -/
def spIsSilent (C CS : Addr) : Sp := fun vs H Q _ => ∃ (x t : Addr) (L : Lore) (ks : List KP) (v : Vec), vs = [.ref x, .ref t, .str (stv v)] ∧ ShAt H C CS x L ∧ LoreOk L ∧ LotAt H t (ks.map (·.1)) ∧ ks.Sublist L.kps ∧ v.length = L.parts.length ∧ ∀ H', Same H H' → Q (.bl (!decide (true ∈ ks.flatMap fun k => ansV L k v))) H'
theorem scIsSilent : FnScope ["shelf", "lot", "record", "keeper"] ["shelf", "lot", "record"] (defScope sIsSilent) := ⟨rfl, rfl, rfl, by decide +kernel, rfl, by decide +kernel, by decide +kernel⟩
theorem ok_isSilent {C CS f1 : Addr} {fd1 : FuncData} (F : Fun K "is_silent" "is_silent" sIsSilent f fd)
    (G1 : FnOk P w K mg base CX0 4 f1 fd1 ["shelf", "keeper", "record"] (spAnswer C CS)) (k1 : PySem.W.keepIn K (.ref f1) = true) (b1 : Binds K fd1 ["shelf", "keeper", "record"] []) (m1 : mg "answer" = some (.ref f1)) :
    FnOk P w K mg base CX0 5 f fd ["shelf", "lot", "record"] (spIsSilent C CS) := by
  refine F.ok scIsSilent (fun vs H Q E h => ?_) (fun cdv A outer s H vs Q E hr h => ?_)
  · obtain ⟨x, t, L, ks, v, rfl, _⟩ := h
    rfl
  · obtain ⟨x, t, L, ks, v, rfl, sh, ok, ht, sub, vl, k⟩ := h
    have nd := scIsSilent.nd
    have ht : H t = some (.tup ((ks.map (·.1)).map V.str)) := ht
    have kl : ks.length ≤ 6 := Nat.le_trans sub.length_le ok.k6
    refine ⟨_, pss_one (ps_ret (pe_cmpR op_notIn_sign pe_str (pe_join pe_str (pe_lc (own := [("keeper", 3)]) (g := gName 3) (tt := tYes) (te := tCall (spAnswer C CS) [] E0 (tCons (tVar 0) (tCons (tVar 3) (tCons (tVar 2) tNil)))) rfl nd (pi_tup (pv 1))
        (blkOk_by (N := ["shelf", "lot", "record", "keeper"]) (sc := defScope sIsSilent) (by decide +kernel)) (fun _ _ _ _ _ => pg_name (i := 3) nd rfl (.inl rfl)) (fun _ _ _ _ _ => pts_nil) (fun _ _ _ _ _ => pe_call G1 hr (by rfl) m1 k1 b1 .nil pass0 (pa_cons (pv 0) (pa_cons (pv 3) (pa_cons (pv 2) pa_nil)))))) rfl)), ?_⟩
    refine ⟨⟨_, rfl⟩, _, rfl, t, rfl, ⟨_, SqT.of ht⟩, fun D nD => lc_fm (walk_tup (a := t) (xs := (ks.map (·.1)).map V.str)) ks (fun k => some (.str (stv (ansV L k v)))) (by rw [List.length_map, List.length_map]) (by rw [List.length_map, List.length_map]; omega) nD (fun H s => sqT_same s (SqT.of ht)) ?_ ?_⟩
    · rintro i u kq H2 H2' R Rn hk s2 ⟨rfl, hu⟩ k1 k2
      obtain rfl : V.str kq.1 = u := by
        rw [List.getElem?_map, List.getElem?_map, hk] at hu
        exact Option.some.inj hu
      obtain ⟨j, hj⟩ := List.mem_iff_getElem?.mp (sub.subset (List.mem_of_getElem? hk))
      refine ⟨rfl, _, rfl, _, rfl, _, rfl, x, L, j, kq, stv v, rfl, sh.same s2, ok, hj, recOk_stv vl, fun H3 s3 => ?_⟩
      rw [answer_stv vl]
      exact k1 _ _ rfl s3
    · intro H2 s2 eD
      have fe : (ks.filterMap fun k => some (V.str (stv (ansV L k v)))) = ((ks.map fun k => ansV L k v).map stv).map V.str := by
        simp [Function.comp_def]
      rw [fe] at eD
      refine ⟨"", D, (ks.map fun k => ansV L k v).map stv, rfl, rfl, .inl (SqL.of eD), ?_, ?_⟩
      · refine Nat.le_trans (join_le (s := ("" : Str)) (n := 6) (c := 2) (by rw [List.length_map, List.length_map]; exact kl) fun y hy => ?_).1 (by decide)
        obtain ⟨z, hz, rfl⟩ := List.mem_map.mp hy
        obtain ⟨k, hk, rfl⟩ := List.mem_map.mp hz
        rw [stv_len, ansV_len]
        exact (ok.q k (sub.subset hk)).2.1
      · rw [join_stv]
        refine ⟨49, _, by rw [one49], rfl, ?_⟩
        rw [in_stv, ← List.flatMap_def]
        exact k H2 s2
/-! ### is_lost -/
def spIsLost (C CS : Addr) : Sp := fun vs H Q _ => ∃ (x t : Addr) (L : Lore) (ks : List KP) (v : Vec), vs = [.ref x, .ref t, .str (stv v)] ∧ ShAt H C CS x L ∧ LoreOk L ∧ LotAt H t (ks.map (·.1)) ∧ ks.Sublist L.kps ∧ v.length = L.parts.length ∧ ∀ H', Same H H' → Q (.bl (lostB L ks v)) H'
theorem scIsLost : FnScope ["shelf", "lot", "record"] ["shelf", "lot", "record"] (defScope sIsLost) := ⟨rfl, rfl, rfl, by decide +kernel, rfl, by decide +kernel, by decide +kernel⟩
theorem ok_isLost {C CS f1 : Addr} {fd1 : FuncData} (F : Fun K "is_lost" "is_lost" sIsLost f fd)
    (G1 : FnOk P w K mg base CX0 5 f1 fd1 ["shelf", "lot", "record"] (spIsSilent C CS)) (k1 : PySem.W.keepIn K (.ref f1) = true) (b1 : Binds K fd1 ["shelf", "lot", "record"] []) (m1 : mg "is_silent" = some (.ref f1)) :
    FnOk P w K mg base CX0 6 f fd ["shelf", "lot", "record"] (spIsLost C CS) := by
  refine F.ok scIsLost (fun vs H Q E h => ?_) (fun cdv A outer s H vs Q E hr h => ?_)
  · obtain ⟨x, t, L, ks, v, rfl, _⟩ := h
    rfl
  · obtain ⟨x, t, L, ks, v, rfl, sh, ok, ht, sub, vl, k⟩ := h
    have nd := scIsLost.nd
    refine ⟨_, pss_one (ps_ret (pe_and (pe_cmpR op_in_sign pe_str (pv 2) rfl) (pe_one (pe_call G1 hr (by rfl) m1 k1 b1 .nil pass0 (pa_cons (pv 0) (pa_cons (pv 1) (pa_cons (pv 2) pa_nil))))))), ?_⟩
    refine ⟨_, rfl, 49, stv v, by rw [one49], rfl, _, rfl, ?_⟩
    rw [in_stv]
    unfold lostB at k
    cases hd : decide (true ∈ v) with
    | false =>
      rw [hd] at k
      exact iteB rfl (k H (Same.refl _))
    | true =>
      rw [hd] at k
      exact iteT ⟨_, rfl, _, rfl, _, rfl, x, t, L, ks, v, rfl, sh, ok, ht, sub, vl, fun H' s => k H' s⟩
/-! ### lost_record -/
def spLostRec (C CS : Addr) : Sp := fun vs H Q _ => ∃ (x t : Addr) (L : Lore) (ks : List KP), vs = [.ref x, .ref t] ∧ ShAt H C CS x L ∧ LoreOk L ∧ LotAt H t (ks.map (·.1)) ∧ ks.Sublist L.kps ∧ (∃ v : Vec, v.length = L.parts.length ∧ lostB L ks v = true) ∧ ∀ v H', v.length = L.parts.length → lostB L ks v = true → Same H H' → Q (.str (stv v)) H'
theorem scLostRec : FnScope ["shelf", "lot", "record"] ["shelf", "lot"] (defScope sLostRec) := ⟨rfl, rfl, rfl, by decide +kernel, rfl, by decide +kernel, by decide +kernel⟩
theorem recs16 {L : Lore} (ok : LoreOk L) : (vL L.parts.length).length ≤ 16 := by
  rw [vL_len]
  exact Nat.le_trans (Nat.pow_le_pow_right (by decide) ok.p4) (by decide)
theorem ok_lostRec {C CS f1 f2 : Addr} {fd1 fd2 : FuncData} (F : Fun K "lost_record" "lost_record" sLostRec f fd)
    (G1 : FnOk P w K mg base CX0 2 f1 fd1 ["shelf"] (spRecs C CS)) (k1 : PySem.W.keepIn K (.ref f1) = true) (b1 : Binds K fd1 ["shelf"] []) (m1 : mg "records" = some (.ref f1))
    (G2 : FnOk P w K mg base CX0 6 f2 fd2 ["shelf", "lot", "record"] (spIsLost C CS)) (k2 : PySem.W.keepIn K (.ref f2) = true) (b2 : Binds K fd2 ["shelf", "lot", "record"] []) (m2 : mg "is_lost" = some (.ref f2)) :
    FnOk P w K mg base CX0 7 f fd ["shelf", "lot"] (spLostRec C CS) := by
  refine F.ok scLostRec (fun vs H Q E h => ?_) (fun cdv A outer s H vs Q E hr h => ?_)
  · obtain ⟨x, t, L, ks, rfl, _⟩ := h
    rfl
  · obtain ⟨x, t, L, ks, rfl, sh, ok, ht, sub, ⟨v0, v0l, v0b⟩, k⟩ := h
    have nd := scLostRec.nd
    have hr2 : Room 2 _ := hr.mono (by decide)
    have ht : H t = some (.tup ((ks.map (·.1)).map V.str)) := ht
    refine ⟨_, pss_one (ps_ret (pe_ix ix_list (pe_lc (own := [("record", 2)]) (g := gName 2) (tt := tB (tCall (spIsLost C CS) [] E0 (tCons (tVar 0) (tCons (tVar 1) (tCons (tVar 2) tNil))))) (te := tVar 2) rfl nd (pi_list (pe_call G1 hr2 (by rfl) m1 k1 b1 .nil pass0 (pa_cons (pv 0) pa_nil)))
        (blkOk_by (N := ["shelf", "lot", "record"]) (sc := defScope sLostRec) (by decide +kernel)) (fun _ _ _ _ _ => pg_name (i := 2) nd rfl (.inl rfl)) (fun _ _ _ _ _ => pts_one (pt_val (pe_call G2 hr (by rfl) m2 k2 b2 .nil pass0 (pa_cons (pv 0) (pa_cons (pv 1) (pa_cons (pv 2) pa_nil)))))) (fun _ _ _ _ _ => pv 2)) pe_int (fun _ _ => rfl))), ?_⟩
    refine ⟨_, rfl, x, L, rfl, sh, ok, fun p H1 s1 _ ep => ?_⟩
    have ep : H1 p = some (.lst (((vL L.parts.length).map stv).map V.str)) := ep
    have r16 := recs16 ok
    refine ⟨p, rfl, ⟨_, SqL.of ep⟩, fun D nD => lc_fm (walk_list (a := p) (xs := ((vL L.parts.length).map stv).map V.str)) (vL L.parts.length) (fun v => if lostB L ks v = true then some (.str (stv v)) else none) (by rw [List.length_map, List.length_map]) (by rw [List.length_map, List.length_map]; omega) nD (fun H s => s.seq (SqL.of ep)) ?_ ?_⟩
    · rintro i u v H2 H2' R Rn hv s2 ⟨rfl, hu⟩ k1 k2
      obtain rfl : V.str (stv v) = u := by
        rw [List.getElem?_map, List.getElem?_map, hv] at hu
        exact Option.some.inj hu
      have sH := s1.trans s2
      refine ⟨rfl, _, rfl, _, rfl, _, rfl, x, t, L, ks, v, rfl, sh.same sH, ok, sH _ _ ht, sub, mem_vL.mp (List.mem_of_getElem? hv), fun H3 s3 => ⟨_, rfl, ?_⟩⟩
      cases hb : lostB L ks v with
      | true => exact iteT ⟨_, rfl, k1 _ _ (if_pos hb) s3⟩
      | false => exact iteB rfl (k2 _ (if_neg (by rw [hb]; decide)) s3)
    · intro H2 s2 eD
      have : ∃ v vs, (vL L.parts.length).filter (lostB L ks) = v :: vs := by
        cases e : (vL L.parts.length).filter (lostB L ks) with
        | nil =>
          have : v0 ∈ (vL L.parts.length).filter (lostB L ks) := List.mem_filter.mpr ⟨mem_vL.mpr v0l, v0b⟩
          rw [e] at this
          cases this
        | cons v vs => exact ⟨v, vs, rfl⟩
      obtain ⟨v, vs, e⟩ := this
      have fe : ((vL L.parts.length).filterMap fun v => if lostB L ks v = true then some (V.str (stv v)) else none) = ((vL L.parts.length).filter (lostB L ks)).map fun v => V.str (stv v) := by
        induction vL L.parts.length with
        | nil => rfl
        | cons a l ih =>
          by_cases m : lostB L ks a = true
          · rw [List.filterMap_cons, if_pos m, List.filter_cons_of_pos m, List.map_cons, ih]
          · rw [List.filterMap_cons, if_neg m, List.filter_cons_of_neg m, ih]
      rw [fe, e] at eD
      have vm : v ∈ (vL L.parts.length).filter (lostB L ks) := by rw [e]; exact List.mem_cons_self
      exact ⟨D, _, _, _, rfl, rfl, SqL.of eD, at0 rfl, k _ _ (mem_vL.mp (List.mem_filter.mp vm).1) (List.mem_filter.mp vm).2 (s1.trans s2)⟩
/-! ### brings -/
/-- whether the spots of the keepers tell each part -/
def backB (L : Lore) (ks : List KP) : Bool := (List.range L.parts.length).all fun i => decide (unitV L.parts.length i ∈ (tabC L (spotsIn L (ks.map (·.1)))).map (·.1))
end
end K6
set_option Elab.async false
set_option linter.all false
set_option maxRecDepth 100000
set_option maxHeartbeats 4000000
/-! Part U: enumerate of a text. -/
namespace Lk
open PySem PySem.Spec PyProof.Rows L2
/-- the signs of a text, each in a new pair with its place -/
def ItE (z : Str) : It :=
  ⟨fun i _ => i < z.cps.size, fun i H v H' => ∃ T c, v = .ref T ∧ H T = none ∧ z.cps[i]? = some c ∧ H' = upd H T (.tup [.int (i : Nat), .str ⟨#[c]⟩]), fun i _ => z.cps.size ≤ i⟩
theorem turn_enumT {P : Program} {w : World} {K : PySem.W.Frag} {elts : List Expr} {kk : Nat} {tpos : Pos} (e it : Addr) (z : Str) (t : Tok) :
    Turn P w K (.Tuple elts kk tpos) (ItE z) [e, it] e (fun i h => i ≤ z.cps.size ∧ (∃ old, IsEnum h e it ((i : Nat) : Int) old) ∧ h.IsStrIter it (strIterType z) z t i ∧ e ≠ it) where
  mem := by simp
  obj := fun i h st b hb => by
    obtain ⟨_, ⟨old, he⟩, ⟨o, ho, hc, hd⟩, _⟩ := st
    have e' : b = e ∨ b = it := by simpa using hb
    rcases e' with z | z
    · rw [z]; exact ⟨_, he, fun v q => nomatch q⟩
    · rw [z]; exact ⟨o, ho, fun v q => by rw [hd] at q; cases q⟩
  keep := fun i h h' st k => let ⟨le, ⟨old, he⟩, ⟨o, ho, r⟩, hne⟩ := st; ⟨le, ⟨old, k e (by simp) _ he⟩, ⟨o, k it (by simp) _ ho, r⟩, hne⟩
  item := by
    intro X hP hw hK hc i pins s σ H E I hf st hg
    subst hP hw hK
    obtain ⟨le, ⟨old, he⟩, hit, hne⟩ := st
    have hg : i < z.cps.size := hg
    have hel : e < s.heap.objs.size := Heap.lt_size he
    have hil : it < s.heap.objs.size := by obtain ⟨_, q, _⟩ := hit; exact Heap.lt_size q
    refine wpAny_pyNext_enum_itemD (Draws.text (prog := X.prog) (w := X.w) (A := X.A.in1) (I.ok.hd hc) it z t) he hit hg hne (by simpa using hne) fun x h' tk px ho hit' hT hsz hk => ?_
    obtain ⟨c, u, hcx, rfl⟩ := px
    refine ⟨_, rfl, wpAny_letOwnedTupleGo_enum (s := { s with heap := h', toks := tk + 1 }) ho fun h'' he' sb => ?_⟩
    have hT2 := (sb.2 _ (Nat.ne_of_gt hel)).trans hT
    have new : ObjOk X.prog X.w (upd H s.heap.objs.size (.tup [.int (i : Nat), .str ⟨#[c]⟩])) h'' s.heap.objs.size (.tup [.int (i : Nat), .str ⟨#[c]⟩]) :=
      ⟨by show 2 ≤ sizeLine; decide, [.int i tk, .str ⟨#[c]⟩ u], .cons ⟨_, rfl⟩ (.cons ⟨_, rfl⟩ .nil), ⟨_, hT2, rfl, _, rfl⟩⟩
    have I1 : Inv X pins σ (upd H s.heap.objs.size (.tup [.int (i : Nat), .str ⟨#[c]⟩])) { s with heap := h'', toks := tk + 1 } :=
      I.turnedNew (ch := [e, it]) (fun b ob hb q => (sb.2 b (fun z => hb (by simp [z]))).trans (hk b ob (fun z => hb (by simp [z])) (fun z => hb (by simp [z])) q)) hf (Nat.le_refl _) new
    refine ⟨.ref s.heap.objs.size, _, I1, rfl, ⟨_, c, rfl, I.hok.fresh (Nat.le_refl _), hcx, rfl⟩, ⟨hg, ⟨.str ⟨#[c]⟩ u, ?_⟩, ?_, hne⟩, fun b hb => ?_⟩
    · have e1 : ((i + 1 : Nat) : Int) = (i : Int) + 1 := by omega
      rw [e1]; exact he'
    · obtain ⟨o, ho2, r⟩ := hit'
      exact ⟨o, (sb.2 it (Ne.symm hne)).trans ho2, r⟩
    · have hb' : b < s.heap.objs.size := by
        have e' : b = e ∨ b = it := by simpa using hb
        rcases e' with z | z
        · rw [z]; exact hel
        · rw [z]; exact hil
      rw [upd_ne (Nat.ne_of_lt hb')]
      exact (hf b hb).1
  done := by
    intro X hP hw hK hc i pins s σ H E I hf st hg
    subst hP hw hK
    obtain ⟨le, ⟨old, he⟩, hit, hne⟩ := st
    have hg : z.cps.size ≤ i := hg
    obtain rfl : i = z.cps.size := by omega
    obtain ⟨f0, f1, f2, f3, f4, f5⟩ := hf it (by simp)
    exact wpAny_pyNext_enum_endD (Draws.text (prog := X.prog) (w := X.w) (A := X.A.in1) (I.ok.hd hc) it z t) he hit fun h' eb => ⟨rfl, I.turned (t' := s.toks) (fun b o hb q => eb b o hb q) f0 f1 f3 f4 f5⟩
  self := fun A i s Q E st h => let ⟨_, ⟨_, he⟩, _⟩ := st; wpAny_pyIter_enum he h
def iEnumT (ta : TA) : TI := fun σ H R => ta σ H fun vs H1 => ∃ z, vs = [.str z] ∧ R (ItE z) H1
theorem pi_enumT {X : Cx} {e : Expr} {ta : TA} {p pos tpos : Pos} {elts : List Expr} {kk : Nat} (hg : Gl X "enumerate") (hm : X.mg "enumerate" = none) (ha : PA X [e] ta) (hs : starEach [e] X.env = [(false, eval e X.env)] := by rfl) :
    PI X (.Tuple elts kk tpos) (.Call (.Name "enumerate" p) [e] [] pos) (iEnumT ta) := by
  refine ⟨fun pins s σ H R I h => ?_⟩
  refine Call_ (ld_blt I hg hm boot_enumerate (PyProof.Rows.callWith_type1 (thn (ha.run pos pins s σ H _ I h) fun us s1 ⟨vs, H1, I1, r1, q1⟩ => ?_) hs rfl))
  obtain ⟨z, ex, q⟩ := q1
  subst ex
  cases r1 with
  | cons r rr =>
    cases rr
    obtain ⟨t, rfl⟩ := r
    refine call_enumerate_str fun h' he hit hsz hk => wpAny_pyIter_enum he ?_
    have I2 : Inv X pins σ H1 { s1 with heap := h' } := I1.kept (t' := s1.toks) hk
    refine ⟨s1.heap.objs.size + 1, [s1.heap.objs.size + 1, s1.heap.objs.size], _, _, H1, rfl, I2, turn_enumT (s1.heap.objs.size + 1) s1.heap.objs.size z t, ⟨Nat.zero_le _, ⟨.none, he⟩, hit, Nat.succ_ne_self _⟩, fun b hb => ?_, q⟩
    have e' : b = s1.heap.objs.size + 1 ∨ b = s1.heap.objs.size := by simpa using hb
    have hle : s1.heap.objs.size ≤ b := by
      rcases e' with z | z
      · rw [z]; exact Nat.le_add_right _ _
      · rw [z]; exact Nat.le_refl _
    exact I1.fpOk hle (I1.hok.fresh hle)
theorem walk_enumT {z : Str} : Walk (ItE z) z.cps.size (fun _ => True) (fun i H v H' => ∃ T c, v = .ref T ∧ H T = none ∧ z.cps[i]? = some c ∧ H' = upd H T (.tup [.int (i : Nat), .str ⟨#[c]⟩])) :=
  ⟨fun i _ hi _ => hi, fun _ _ => Nat.le_refl _, fun _ _ _ _ _ _ y => y⟩
end Lk
set_option Elab.async false
set_option linter.all false
set_option maxRecDepth 100000
set_option maxHeartbeats 4000000
set_option pp.maxSteps 1200
set_option pp.deepTerms false
namespace K6
open PySem PySem.Spec PyProof.Rows L2 Lk
abbrev Ans := List (KP × Vec)
structure AnsOk (L : Lore) (As : Ans) : Prop where
  sub : (As.map (·.1)).Sublist L.kps
  len : ∀ a ∈ As, a.2.length = a.1.2.length
def RelA (H : Hp) (v : V) (a : KP × Vec) : Prop := ∃ t, v = V.ref t ∧ H t = some (.tup [.str a.1.1, .str (stv a.2)])
theorem RelA.keep (H H' : Hp) (v : V) (a : KP × Vec) (k : Keep H H') (h : RelA H v a) : RelA H' v a := by
  obtain ⟨t, e, h⟩ := h
  exact ⟨t, e, k _ _ h fun xs z => by cases z⟩
/-- a tuple, with a dict of its own or surely without -/
def TupE (H : Hp) (r : Addr) (ts : List V) : Prop := H r = some (.tup ts) ∨ TupX H r ts
theorem TupE.same {H H' : Hp} {r : Addr} {ts : List V} (h : TupE H r ts) (s : Same H H') : TupE H' r ts := h.elim (fun h => .inl (s _ _ h)) fun h => .inr (h.same s)
theorem TupE.sq {K : PySem.W.Frag} {H : Hp} {r : Addr} {ts : List V} (h : TupE H r ts) : SqT K H r ts := h.elim (fun h => SqT.of h) fun h => h.sq
theorem TupE.ty {K : PySem.W.Frag} {H : Hp} {r : Addr} {ts : List V} (h : TupE H r ts) : TyX K H (.ref r) (.type "tuple") := h.elim (fun h => .base (.tup h)) fun h => isi_tup h
def AnsAt (H : Hp) (r : Addr) (As : Ans) : Prop := ∃ ts, TupE H r ts ∧ Paired (RelA H) ts As
theorem AnsAt.same {H H' : Hp} {r : Addr} {As : Ans} (h : AnsAt H r As) (s : Same H H') : AnsAt H' r As := by
  obtain ⟨ts, e, p⟩ := h
  exact ⟨ts, e.same s, Paired.mapP p fun v a r => RelA.keep _ _ _ _ (.of s) r⟩
theorem AnsOk.six {L : Lore} {As : Ans} (ok : LoreOk L) (h : AnsOk L As) : As.length ≤ 6 := by
  have := h.sub.length_le
  rw [List.length_map] at this
  exact Nat.le_trans this ok.k6
theorem AnsOk.mem {L : Lore} {As : Ans} (h : AnsOk L As) {a : KP × Vec} (ha : a ∈ As) : a.1 ∈ L.kps := h.sub.subset (List.mem_map.mpr ⟨a, ha, rfl⟩)
/-- whether a record gives these answers -/
def fitB (L : Lore) (As : Ans) (v : Vec) : Bool := As.all fun a => decide (ansV L a.1 v = a.2)
/-- all records that do -/
def fitV (L : Lore) (As : Ans) : List Vec := (vL L.parts.length).filter (fitB L As)
theorem ansV_two {L : Lore} (ok : LoreOk L) {k : KP} (hk : k ∈ L.kps) (v : Vec) : (ansV L k v).length ≤ 2 := by
  rw [ansV_len]
  exact (ok.q k hk).2.1
section
variable {P : Program} {w : World} {K : PySem.W.Frag} {mg : Str → Option Value} {base : Heap} {f : Addr} {fd : FuncData}
/-! ### answered -/
def spAnswered : Sp := fun vs H Q _ => ∃ (r : Addr) (As : Ans), vs = [.ref r] ∧ AnsAt H r As ∧ As.length ≤ 6 ∧ ∀ t H', Same H H' → LotAt H' t ((As.map (·.1)).map (·.1)) → Q (.ref t) H'
/-! ### is_answer -/
def spIsAns (C CS : Addr) : Sp := fun vs H Q _ => ∃ (x t : Addr) (L : Lore) (a : KP × Vec), vs = [.ref x, .ref t] ∧ ShAt H C CS x L ∧ LoreOk L ∧ a.1 ∈ L.kps ∧ a.2.length = a.1.2.length ∧ H t = some (.tup [.str a.1.1, .str (stv a.2)]) ∧ ∀ H', Same H H' → Q (.bl true) H'
/-! ### are_answers, refuse_answers -/
def spAreAns (C CS : Addr) : Sp := fun vs H Q _ => ∃ (x r : Addr) (L : Lore) (As : Ans), vs = [.ref x, .ref r] ∧ ShAt H C CS x L ∧ LoreOk L ∧ AnsAt H r As ∧ AnsOk L As ∧ ∀ H', Same H H' → Q (.bl true) H'
def spRefAns (C CS : Addr) : Sp := fun vs H Q _ => ∃ (x r : Addr) (L : Lore) (As : Ans), vs = [.ref x, .ref r] ∧ ShAt H C CS x L ∧ LoreOk L ∧ AnsAt H r As ∧ AnsOk L As ∧ ∀ H', Same H H' → Q .non H'
end
end K6
set_option Elab.async false
set_option linter.all false
set_option maxRecDepth 100000
set_option maxHeartbeats 4000000
set_option pp.maxSteps 1200
set_option pp.deepTerms false
namespace K6
open PySem PySem.Spec PyProof.Rows L2 Lk
theorem fitB_snoc (L : Lore) (As : Ans) (a : KP × Vec) (v : Vec) : fitB L (As ++ [a]) v = (fitB L As v && decide (ansV L a.1 v = a.2)) := by
  unfold fitB
  rw [List.all_append]
  simp
theorem fm_filter (q : Vec → Bool) : ∀ vs : List Vec, (vs.filterMap fun v => if q v = true then some (V.str (stv v)) else none) = ((vs.filter q).map stv).map V.str
  | [] => rfl
  | a :: l => by
    have ih := fm_filter q l
    by_cases m : q a = true
    · rw [List.filterMap_cons, if_pos m, List.filter_cons_of_pos m, List.map_cons, List.map_cons, ih]
    · rw [List.filterMap_cons, if_neg m, List.filter_cons_of_neg m, ih]
theorem fm_names (q : KP × Vec → Bool) : ∀ zs : List (V × (KP × Vec)), (zs.filterMap fun z => if q z.2 = true then some (V.str z.2.1.1) else none) = (((zs.map (·.2)).filter q).map (·.1.1)).map V.str
  | [] => rfl
  | z :: zs => by
    have ih := fm_names q zs
    by_cases m : q z.2 = true
    · rw [List.filterMap_cons, if_pos m, List.map_cons, List.filter_cons_of_pos m, List.map_cons, List.map_cons, ih]
    · rw [List.filterMap_cons, if_neg m, List.map_cons, List.filter_cons_of_neg m, ih]
theorem strDec (a b : Vec) : decide (V.str (stv a) = V.str (stv b)) = decide (a = b) := by
  rw [← stv_dec]
  have : (V.str (stv a) = V.str (stv b)) ↔ stv a = stv b := ⟨fun h => V.str.inj h, fun h => by rw [h]⟩
  simp only [this]
/-- the spots of the answers with their values -/
def valuedL (As : Ans) : List (Spot × Bool) := As.flatMap fun a => (List.range a.2.length).map fun i => ((a.1.1, i), a.2.getD i false)
def RelW2 (H : Hp) (v : V) (r : Spot × Bool) : Prop := ∃ t u, v = V.ref t ∧ H t = some (.tup [.ref u, .str (stv [r.2])]) ∧ H u = some (.tup [.str r.1.1, .int (r.1.2 : Int)])
theorem RelW2.keep (H H' : Hp) (v : V) (r : Spot × Bool) (k : Keep H H') (h : RelW2 H v r) : RelW2 H' v r := by
  obtain ⟨t, u, e, h1, h2⟩ := h
  exact ⟨t, u, e, k _ _ h1 (fun xs z => by cases z), k _ _ h2 (fun xs z => by cases z)⟩
theorem valued_len {L : Lore} (ok : LoreOk L) : ∀ {As : Ans}, (∀ a ∈ As, a.1 ∈ L.kps ∧ a.2.length = a.1.2.length) → (valuedL As).length ≤ 2 * As.length
  | [], _ => Nat.zero_le _
  | a :: As, h => by
    have ih := valued_len ok (As := As) fun b hb => h b (List.mem_cons_of_mem _ hb)
    obtain ⟨h1, h2⟩ := h a List.mem_cons_self
    have h3 := (ok.q _ h1).2.1
    unfold valuedL at ih ⊢
    rw [List.flatMap_cons, List.length_append, List.length_map, List.length_range, List.length_cons]
    omega
section
variable {P : Program} {w : World} {K : PySem.W.Frag} {mg : Str → Option Value} {base : Heap} {f : Addr} {fd : FuncData}
/-! ### all_fitting, fitting -/
def spAllFit (C CS : Addr) : Sp := fun vs H Q _ => ∃ (x r : Addr) (L : Lore) (As : Ans), vs = [.ref x, .ref r] ∧ ShAt H C CS x L ∧ LoreOk L ∧ AnsAt H r As ∧ AnsOk L As ∧ ∀ p H', Same H H' → H' p = some (.lst (((fitV L As).map stv).map V.str)) → Q (.ref p) H'
def spFitting (C CS : Addr) : Sp := fun vs H Q _ => ∃ (x r : Addr) (L : Lore) (As : Ans), vs = [.ref x, .ref r] ∧ ShAt H C CS x L ∧ LoreOk L ∧ AnsAt H r As ∧ AnsOk L As ∧ ∀ H', Same H H' → Q (.int ((fitV L As).length : Nat)) H'
/-! ### differ -/
def difL (L : Lore) (As : Ans) (v : Vec) : Ans := As.filter fun a => !decide (ansV L a.1 v = a.2)
def spDiffer (C CS : Addr) : Sp := fun vs H Q _ => ∃ (x r : Addr) (L : Lore) (As : Ans) (v : Vec), vs = [.ref x, .ref r, .str (stv v)] ∧ ShAt H C CS x L ∧ LoreOk L ∧ AnsAt H r As ∧ AnsOk L As ∧ v.length = L.parts.length ∧ ∀ t H', Same H H' → LotAt H' t ((difL L As v).map (·.1.1)) → Q (.ref t) H'
/-! ### valued -/
def spValued : Sp := fun vs H Q _ => ∃ (r : Addr) (As : Ans), vs = [.ref r] ∧ AnsAt H r As ∧ As.length ≤ 6 ∧ (∀ a ∈ As, a.2.length ≤ 2) ∧ ∀ D ts H', Same H H' → H' D = some (.lst ts) → Paired (RelW2 H') ts (valuedL As) → Q (.ref D) H'
theorem valuedL_take (As : Ans) {i : Nat} {a : KP × Vec} (h : As[i]? = some a) : valuedL (As.take (i + 1)) = valuedL (As.take i) ++ (List.range a.2.length).map fun j => ((a.1.1, j), a.2.getD j false) := by
  unfold valuedL
  rw [List.take_add_one, h, List.flatMap_append]
  simp
end
end K6
set_option Elab.async false
set_option linter.all false
set_option maxRecDepth 100000
set_option maxHeartbeats 4000000
namespace K6
open PySem PySem.Spec PyProof.Rows L2 Lk
def cntP (p : Str) (pcs : List (List Str)) : Nat := (pcs.filter fun q => decide (p ∈ q)).length
def oddL (ps : List Str) (pcs : List (List Str)) : List Str := ps.filter fun p => decide (cntP p pcs % 2 = 1)
/-! ### what sums come to -/
theorem vx_map {α : Type} (f g : α → Bool) : ∀ ps : List α, vx (ps.map f) (ps.map g) = ps.map fun p => xor (f p) (g p)
  | [] => rfl
  | p :: ps => by
    show xor (f p) (g p) :: vx (ps.map f) (ps.map g) = _
    rw [vx_map f g ps]
    rfl
theorem odd_xor (k : Nat) (b : Bool) : xor b (decide (k % 2 = 1)) = decide ((k + bN b) % 2 = 1) := by
  have h2 : k % 2 = 0 ∨ k % 2 = 1 := by omega
  cases b with
  | false => simp [bN]
  | true =>
    rcases h2 with h | h
    · have : (k + 1) % 2 = 1 := by omega
      simp [bN, h, this]
    · have : (k + 1) % 2 = 0 := by omega
      simp [bN, h, this]
theorem fold_codes (ps : List Str) : ∀ (pcs : List (List Str)) (f : Str → Bool), (pcs.map (vecP ps)).foldl vx (ps.map f) = ps.map fun p => xor (f p) (decide (cntP p pcs % 2 = 1))
  | [], f => by
    show ps.map f = ps.map fun p => xor (f p) (decide (0 % 2 = 1))
    exact List.map_congr_left fun p _ => by simp
  | q :: pcs, f => by
    rw [List.map_cons, List.foldl_cons]
    have e : vx (ps.map f) (vecP ps q) = ps.map fun p => xor (f p) (decide (p ∈ q)) := vx_map f _ ps
    rw [e, fold_codes ps pcs]
    refine List.map_congr_left fun p _ => ?_
    rw [Bool.xor_assoc]
    congr 1
    rw [odd_xor]
    have : cntP p (q :: pcs) = cntP p pcs + bN (decide (p ∈ q)) := by
      unfold cntP
      by_cases m : p ∈ q
      · rw [List.filter_cons_of_pos (by simpa using m)]
        simp [m, bN]
      · rw [List.filter_cons_of_neg (by simpa using m)]
        simp [m, bN]
    rw [this]
theorem sum_codes (ps : List Str) (pcs : List (List Str)) : sumV ps.length (pcs.map (vecP ps)) = ps.map fun p => decide (cntP p pcs % 2 = 1) := by
  have z : zv ps.length = ps.map fun _ => false := by
    unfold zv
    rw [List.map_const']
  unfold sumV
  rw [z, fold_codes]
  exact List.map_congr_left fun p _ => by simp
theorem odd_none {ps : List Str} {pcs : List (List Str)} (h : sumV ps.length (pcs.map (vecP ps)) = zv ps.length) : oddL ps pcs = [] := by
  rw [sum_codes] at h
  unfold oddL
  rw [List.filter_eq_nil_iff]
  intro p hp
  have : decide (cntP p pcs % 2 = 1) ∈ zv ps.length := by
    rw [← h]
    exact List.mem_map.mpr ⟨p, hp, rfl⟩
  rw [(List.mem_replicate.mp this).2]
  simp
theorem vx_snoc : ∀ {a c : Vec} {b d : Bool}, a.length = c.length → vx (a ++ [b]) (c ++ [d]) = vx a c ++ [xor b d]
  | [], [], b, d, _ => rfl
  | x :: a, y :: c, b, d, h => by
    show xor x y :: vx (a ++ [b]) (c ++ [d]) = xor x y :: (vx a c ++ [xor b d])
    rw [vx_snoc (Nat.succ.inj h)]
theorem fold_snoc {n : Nat} : ∀ (rs : List (Vec × Bool)) (a : Vec) (k : Nat), a.length = n → (∀ r ∈ rs, r.1.length = n) → (rs.map fun r => r.1 ++ [r.2]).foldl vx (a ++ [decide (k % 2 = 1)]) = (rs.map (·.1)).foldl vx a ++ [decide ((k + (rs.filter (·.2)).length) % 2 = 1)]
  | [], a, k, _, _ => rfl
  | r :: rs, a, k, ha, h => by
    have hr := h r List.mem_cons_self
    rw [List.map_cons, List.foldl_cons, List.map_cons, List.foldl_cons, vx_snoc (by rw [ha, hr]), Bool.xor_comm, odd_xor, fold_snoc rs _ _ (vx_len ha hr) fun q hq => h q (List.mem_cons_of_mem _ hq)]
    congr 4
    cases e : r.2 with
    | false =>
      rw [List.filter_cons_of_neg (by simp [e])]
      simp [bN]
    | true =>
      rw [List.filter_cons_of_pos e, List.length_cons]
      show (k + 1 + _) % 2 = (k + (_ + 1)) % 2
      rw [Nat.add_assoc, Nat.add_comm 1]
/-! ### the spots of answers -/
theorem piece_at_of {L : Lore} (ok : LoreOk L) {k : KP} (hk : k ∈ L.kps) {i : Nat} {p : List Str} (h : k.2[i]? = some p) : pieceOf L (k.1, i) = p := by
  unfold pieceOf
  dsimp only
  rw [find_at ok.kn hk]
  simp [h]
theorem flat_filter (q : Str → Bool) : ∀ ks : List KP, (spotsOf ks).filter (fun s => q s.1) = spotsOf (ks.filter fun k => q k.1)
  | [] => rfl
  | k :: ks => by
    have ih := flat_filter q ks
    unfold spotsOf at ih ⊢
    rw [List.flatMap_cons, List.filter_append, ih]
    cases e : q k.1 with
    | true =>
      rw [List.filter_cons_of_pos (p := fun k : KP => q k.1) (a := k) (by exact e), List.flatMap_cons, List.filter_eq_self.mpr]
      intro s hs
      obtain ⟨i, _, rfl⟩ := List.mem_map.mp hs
      exact e
    | false =>
      rw [List.filter_cons_of_neg (p := fun k : KP => q k.1) (a := k) (by simp [e]), List.filter_eq_nil_iff.mpr, List.nil_append]
      intro s hs
      obtain ⟨i, _, rfl⟩ := List.mem_map.mp hs
      simp [e]
theorem sub_key {α β : Type} [DecidableEq β] (f : α → β) {ss zs : List α} (h : ss.Sublist zs) : (zs.map f).Nodup → zs.filter (fun z => decide (f z ∈ ss.map f)) = ss := by
  induction h with
  | slnil => intro _; rfl
  | cons a h ih =>
    intro nd
    have n2 := List.nodup_cons.mp nd
    rw [List.filter_cons_of_neg]
    · exact ih n2.2
    · intro m
      exact n2.1 ((h.map f).subset (by simpa using m))
  | @cons_cons l1 l2 a h ih =>
    intro nd
    have n2 := List.nodup_cons.mp nd
    rw [List.filter_cons_of_pos (by simp)]
    have e : l2.filter (fun z => decide (f z ∈ (a :: l1).map f)) = l2.filter (fun z => decide (f z ∈ l1.map f)) := List.filter_congr fun z hz => by
      have : f z ≠ f a := fun e => n2.1 (e ▸ List.mem_map.mpr ⟨z, hz, rfl⟩)
      simp [this]
    rw [e, ih n2.2]
theorem spotsIn_sub {L : Lore} (ok : LoreOk L) {ks : List KP} (h : ks.Sublist L.kps) : spotsIn L (ks.map (·.1)) = spotsOf ks := by
  unfold spotsIn
  rw [flat_filter fun z => decide (z ∈ ks.map (·.1)), sub_key (·.1) h ok.kn]
theorem valued_spots : ∀ {As : Ans}, (∀ a ∈ As, a.2.length = a.1.2.length) → (valuedL As).map (·.1) = spotsOf (As.map (·.1))
  | [], _ => rfl
  | a :: As, h => by
    have ih := valued_spots (As := As) fun b hb => h b (List.mem_cons_of_mem _ hb)
    unfold valuedL spotsOf at ih ⊢
    rw [List.flatMap_cons, List.map_append, ih, List.map_cons, List.flatMap_cons, List.map_map, h a List.mem_cons_self]
    rfl
/-! ### the table of torn answers -/
abbrev rowsA (L : Lore) (As : Ans) : List (RowS × Bool) := (valuedL As).map fun r => ((r.1, codeS L r.1), r.2)
def augL (L : Lore) (As : Ans) : List RowS := (valuedL As).map fun r => (r.1, codeS L r.1 ++ [r.2])
theorem augL_eq (L : Lore) (As : Ans) : (rowsA L As).map augR = augL L As := by
  unfold augL
  rw [List.map_map]
  rfl
theorem augL_len {L : Lore} {As : Ans} : ∀ r ∈ augL L As, r.2.length = L.parts.length + 1 := fun r hr => by
  obtain ⟨s, _, rfl⟩ := List.mem_map.mp hr
  show (codeS L s.1 ++ [s.2]).length = _
  rw [List.length_append]
  show (vecP _ _).length + 1 = _
  rw [vecP_len]
theorem rows_fit {L : Lore} (ok : LoreOk L) {v : Vec} : ∀ {As : Ans}, (∀ a ∈ As, a.1 ∈ L.kps ∧ a.2.length = a.1.2.length) → ((rowsA L As).all fun r => dot r.1.2 v == r.2) = fitB L As v
  | [], _ => rfl
  | a :: As, h => by
    have ih := rows_fit ok (v := v) (As := As) fun b hb => h b (List.mem_cons_of_mem _ hb)
    obtain ⟨h1, h2⟩ := h a List.mem_cons_self
    have e : rowsA L (a :: As) = ((List.range a.2.length).map fun i => (((a.1.1, i), codeS L (a.1.1, i)), a.2.getD i false)) ++ rowsA L As := by
      unfold rowsA valuedL
      rw [List.flatMap_cons, List.map_append, List.map_map]
      rfl
    rw [e, List.all_append, ih]
    show _ = (decide (ansV L a.1 v = a.2) && fitB L As v)
    congr 1
    rw [List.all_map, Bool.eq_iff_iff, List.all_eq_true, decide_eq_true_iff]
    have one : ∀ i, i < a.2.length → dot (codeS L (a.1.1, i)) v = (ansV L a.1 v).getD i false := fun i hi => by
      have hp : a.1.2[i]? = some (a.1.2[i]'(by omega)) := List.getElem?_eq_getElem (by omega)
      unfold codeS ansV
      rw [piece_at_of ok h1 hp, List.getD_eq_getElem?_getD, List.getElem?_map, hp]
      rfl
    constructor
    · intro g
      apply List.ext_getElem?
      intro i
      by_cases hi : i < a.2.length
      · have := g i (List.mem_range.mpr hi)
        have this : dot (codeS L (a.1.1, i)) v = a.2.getD i false := by simpa using this
        rw [one i hi] at this
        have l1 : i < (ansV L a.1 v).length := by rw [ansV_len]; omega
        rw [List.getD_eq_getElem?_getD, List.getD_eq_getElem?_getD, List.getElem?_eq_getElem l1, List.getElem?_eq_getElem hi] at this
        rw [List.getElem?_eq_getElem l1, List.getElem?_eq_getElem hi]
        exact congrArg some this
      · rw [List.getElem?_eq_none (by rw [ansV_len]; omega), List.getElem?_eq_none (by omega)]
    · intro g i hi
      have hi := List.mem_range.mp hi
      show (dot (codeS L (a.1.1, i)) v == a.2.getD i false) = true
      rw [one i hi, g]
      simp
theorem AnsOk.both {L : Lore} {As : Ans} (h : AnsOk L As) : ∀ a ∈ As, a.1 ∈ L.kps ∧ a.2.length = a.1.2.length := fun a ha => ⟨h.mem ha, h.len a ha⟩
theorem fit_perm {L : Lore} (ok : LoreOk L) {As : Ans} (ao : AnsOk L As) : (fitV L As).Perm (fitL L.parts.length (rowsA L As)) := by
  unfold fitV fitL
  have e : (allV L.parts.length).filter (fun v => (rowsA L As).all fun r => dot r.1.2 v == r.2) = (allV L.parts.length).filter (fitB L As) := List.filter_congr fun v _ => rows_fit ok ao.both
  rw [e]
  exact (vL_perm _).filter _
/-- what a torn sum is -/
structure TornOk (L : Lore) (As : Ans) (ss : List Spot) : Prop where
  sub : ss.Sublist (spotsIn L (As.map (·.1.1)))
  none : oddL L.parts (ss.map (pieceOf L)) = []
  odd : ((valuedL As).filter fun r => r.2 && decide (r.1 ∈ ss)).length % 2 = 1
theorem torn_ok {L : Lore} (ok : LoreOk L) {As : Ans} (ao : AnsOk L As) {e : Vec × List RowS} (he : e ∈ tableT (L.parts.length + 1) (augL L As)) (e1 : e.1 = zv L.parts.length ++ [true]) : TornOk L As (e.2.map (·.1)) := by
  have tbo : TbOk (L.parts.length + 1) (augL L As) (tableT (L.parts.length + 1) (augL L As)) := table_ok augL_len
  obtain ⟨sub, sm⟩ := tbo.sums e he
  obtain ⟨vs, vsub, ev⟩ := List.sublist_map_iff.mp sub
  have ss : e.2.map (·.1) = vs.map (·.1) := by
    rw [ev, List.map_map]
    rfl
  have vd : (valuedL As).map (·.1) = spotsIn L (As.map (·.1.1)) := by
    have : As.map (·.1.1) = (As.map (·.1)).map (·.1) := by rw [List.map_map]; rfl
    rw [valued_spots ao.len, this, spotsIn_sub ok ao.sub]
  have subS : (vs.map (·.1)).Sublist (spotsIn L (As.map (·.1.1))) := by
    rw [← vd]
    exact vsub.map _
  have sums : zv L.parts.length ++ [true] = sumV L.parts.length (vs.map fun r => codeS L r.1) ++ [decide ((vs.filter (·.2)).length % 2 = 1)] := by
    rw [← e1, sm, ev, List.map_map]
    have f := fold_snoc (n := L.parts.length) (vs.map fun r => (codeS L r.1, r.2)) (zv L.parts.length) 0 (zv_len _) fun r hr => by
      obtain ⟨q, _, rfl⟩ := List.mem_map.mp hr
      exact vecP_len _ _
    rw [List.map_map, List.map_map, List.filter_map, List.length_map, Nat.zero_add] at f
    have z : zv (L.parts.length + 1) = zv L.parts.length ++ [decide (0 % 2 = 1)] := by
      unfold zv
      rw [List.replicate_succ']
      rfl
    unfold sumV
    rw [z]
    exact f
  obtain ⟨h1, h2⟩ := List.append_inj' sums rfl
  rw [ss]
  refine ⟨subS, ?_, ?_⟩
  · refine odd_none (Eq.trans ?_ h1.symm)
    rw [List.map_map, List.map_map]
    rfl
  · have nd : ((valuedL As).map (·.1)).Nodup := by
      rw [vd]
      exact (spots_nodup ok.kn).sublist List.filter_sublist
    have e2 : (valuedL As).filter (fun r => r.2 && decide (r.1 ∈ vs.map (·.1))) = vs.filter (·.2) := by
      rw [← List.filter_filter]
      exact congrArg (List.filter fun r => r.2) ((List.filter_congr fun z _ => decide_eq_decide.mpr Iff.rfl).trans (sub_key (fun r : Spot × Bool => r.1) vsub nd))
    rw [e2]
    have := (List.cons.inj h2).1
    simpa using this.symm
theorem torn_has {L : Lore} (ok : LoreOk L) {As : Ans} (ao : AnsOk L As) (no : fitV L As = []) : ∃ e, e ∈ tableT (L.parts.length + 1) (augL L As) ∧ e.1 = zv L.parts.length ++ [true] := by
  have tbo : TbOk (L.parts.length + 1) (augL L As) (tableT (L.parts.length + 1) (augL L As)) := table_ok augL_len
  rw [← augL_eq] at tbo
  have nf : fitL L.parts.length (rowsA L As) = [] := by
    have p := fit_perm ok ao
    rw [no] at p
    exact (List.Perm.eq_nil p.symm)
  have h := torn_in (n := L.parts.length) (rows := rowsA L As) (fun r hr => by
    obtain ⟨s, _, rfl⟩ := List.mem_map.mp hr
    exact vecP_len _ _) tbo nf
  rw [augL_eq] at h
  obtain ⟨e, he, h2⟩ := List.mem_map.mp h
  exact ⟨e, he, h2⟩
end K6
set_option Elab.async false
set_option linter.all false
set_option maxRecDepth 100000
set_option maxHeartbeats 4000000
set_option pp.maxSteps 1200
set_option pp.deepTerms false
namespace K6
open PySem PySem.Spec PyProof.Rows L2 Lk
theorem strOne (b : Bool) : decide (V.str (stv [b]) = V.str "1") = b := by
  have h : stv [true] = ("1" : Str) := stv_t
  rw [← h, strDec]
  cases b <;> simp
theorem answers_two {L : Lore} (ok : LoreOk L) {As : Ans} (ao : AnsOk L As) : ∀ a ∈ As, a.2.length ≤ 2 := fun a ha => by
  rw [ao.len a ha]
  exact (ok.q _ (ao.mem ha)).2.1
theorem valued_mem {L : Lore} (ok : LoreOk L) {As : Ans} (ao : AnsOk L As) {r : Spot × Bool} (hr : r ∈ valuedL As) : r.1 ∈ spotsOf L.kps := by
  have h : r.1 ∈ (valuedL As).map (·.1) := List.mem_map.mpr ⟨r, hr, rfl⟩
  rw [valued_spots ao.len, ← spotsIn_sub ok ao.sub] at h
  exact (List.mem_filter.mp h).1
section
variable {P : Program} {w : World} {K : PySem.W.Frag} {mg : Str → Option Value} {base : Heap} {f : Addr} {fd : FuncData}
/-! ### torn_sum -/
def spTornSum (C CS : Addr) : Sp := fun vs H Q _ => ∃ (x r : Addr) (L : Lore) (As : Ans), vs = [.ref x, .ref r] ∧ ShAt H C CS x L ∧ LoreOk L ∧ AnsAt H r As ∧ AnsOk L As ∧ fitV L As = [] ∧
  ∀ q us ss H', Same H H' → H' q = some (.tup us) → Paired (RelS H') us ss → TornOk L As ss → Q (.ref q) H'
/-! ### is_torn -/
end
end K6
set_option Elab.async false
set_option linter.all false
set_option maxRecDepth 100000
set_option maxHeartbeats 4000000
set_option pp.maxSteps 1200
set_option pp.deepTerms false
namespace K6
open PySem PySem.Spec PyProof.Rows L2 Lk
/-- what is told of answers -/
def ToldAt (H : Hp) (q : Addr) (L : Lore) (As : Ans) : Prop :=
  (fitV L As = [] ∧ ∃ p us ss, H q = some (.tup [.str "torn", .ref p]) ∧ H p = some (.tup us) ∧ Paired (RelS H) us ss ∧ TornOk L As ss) ∨
  (∃ v, fitV L As = [v] ∧ H q = some (.tup [.str "record", .str (stv v)])) ∨
  (∃ v w l, fitV L As = v :: w :: l ∧ H q = some (.tup [.str "open", .str (stv v), .str (stv w)]))
theorem ToldAt.same {H H' : Hp} {q : Addr} {L : Lore} {As : Ans} (h : ToldAt H q L As) (s : Same H H') : ToldAt H' q L As := by
  rcases h with ⟨h1, p, us, ss, h2, h3, h4, h5⟩ | ⟨v, h1, h2⟩ | ⟨v, w, l, h1, h2⟩
  · exact .inl ⟨h1, p, us, ss, s _ _ h2, s _ _ h3, Paired.mapP h4 fun v r h => RelS.keep _ _ _ _ (.of s) h, h5⟩
  · exact .inr (.inl ⟨v, h1, s _ _ h2⟩)
  · exact .inr (.inr ⟨v, w, l, h1, s _ _ h2⟩)
theorem at2 {xs : List V} {v : V} (h : xs[2]? = some v) : atI xs 2 = some v := atI_nat h
theorem toldB {n : Nat} {m : Int} {u w : Str} {b : Bool} {xs : List V} (h : (decide ((n : Int) + 1 = m) && decide (u = w)) = b) (e : xs.length = n) : (decide ((xs.length : Int) + 1 = m) && decide (u = w)) = b := by
  rw [e]
  exact h
theorem fitV_nodup (L : Lore) (As : Ans) : (fitV L As).Nodup := (nodup_vL _).sublist List.filter_sublist
section
variable {P : Program} {w : World} {K : PySem.W.Frag} {mg : Str → Option Value} {base : Heap} {f : Addr} {fd : FuncData}
def spTold (C CS : Addr) : Sp := fun vs H Q _ => ∃ (x r : Addr) (L : Lore) (As : Ans), vs = [.ref x, .ref r] ∧ ShAt H C CS x L ∧ LoreOk L ∧ AnsAt H r As ∧ AnsOk L As ∧ ∀ q H', Same H H' → ToldAt H' q L As → Q (.ref q) H'
/-! ### shows_told -/
end
end K6
set_option Elab.async false
set_option linter.all false
set_option maxRecDepth 100000
set_option maxHeartbeats 4000000
/-! Part K: ranges as values, walked. -/
namespace Lk
open PySem PySem.Spec PyProof.Rows L2
theorem cr_range1 {X : Cx} : CallR X (.type "range") (fun vs H Q => ∃ j, vs = [V.int j] ∧ ∀ p, H p = none → Q (.ref p) (upd H p (.rng 0 j))) := by
  intro pins s σ H vs us Q I r h
  obtain ⟨j, rfl, q⟩ := h
  obtain ⟨u1, rfl, rj⟩ := vals1 r
  obtain ⟨t, rfl⟩ := rj
  refine call_range_1 ⟨.ref s.heap.objs.size, upd H s.heap.objs.size (.rng 0 j), I.laid (fun b o e => Heap.get?_push_of_some _ e) (Nat.le_refl _) ?_, rfl, q _ (I.hok.fresh (Nat.le_refl _))⟩
  exact ⟨_, _, _, Heap.get?_push_size _ rfl⟩
def iRngV (tl : TE) : TI := fun σ H R => tl σ H fun x H1 => ∃ a lo hi, x = .ref a ∧ H1 a = some (.rng lo hi) ∧ (-(2 ^ 62) ≤ lo ∧ lo < 2 ^ 62 ∧ -(2 ^ 62) ≤ hi ∧ hi < 2 ^ 62) ∧ R (Itr lo (hi - lo).toNat) H1
theorem pi_rng {X : Cx} {tg l : Expr} {tl : TE} (hl : PE X l tl) : PI X tg l (iRngV tl) := by
  refine ⟨fun pins s σ H R I h => ?_⟩
  refine thn (hl.run pins s σ H _ I h) fun v s1 ⟨x, H1, I1, r1, q1⟩ => ?_
  obtain ⟨a, lo, hi, e, ha, ⟨b1, b2, b3, b4⟩, q⟩ := q1
  subst e
  cases r1
  obtain ⟨t, u, w', ho⟩ := I1.hok a _ ha
  refine wpAny_pyIter_range (r := a) (a := lo) (b := hi) (c := 1) (t := t) (u := u) (v := w') ho (small_one b1 b2 b3 b4) ?_
  refine ⟨s1.heap.objs.size, [s1.heap.objs.size], _, _, H1, rfl, I1.kept (t' := s1.toks) fun b o e => Heap.get?_push_of_some _ e, turn_range _ lo (hi - lo).toNat, ?_, fun b hb => ?_, q⟩
  · have e1 : lo + ((0 : Nat) : Int) * 1 = lo := by simp
    have e2 : (((hi - lo).toNat : Nat) : Int) - ((0 : Nat) : Int) = Builtin.Range.rangeSize lo hi 1 := by rw [rangeSize_one]; split <;> omega
    show IsRangeIter _ _ (lo + ((0 : Nat) : Int) * 1) ((((hi - lo).toNat : Nat) : Int) - ((0 : Nat) : Int)) 1
    rw [e1, e2]
    exact Heap.get?_push_size _ rfl
  · have e : b = s1.heap.objs.size := by simpa using hb
    subst e
    exact I1.fpOk (Nat.le_refl _) (I1.hok.fresh (Nat.le_refl _))
end Lk
set_option Elab.async false
set_option linter.all false
set_option maxRecDepth 100000
set_option maxHeartbeats 4000000
/-! Part P: dict(t), t a tuple of pairs. -/
namespace Lk
open PySem PySem.Spec PyProof.Rows L2
theorem pairs_list : ∀ {prs : List (L2.Key × Value)} {R : Nat → L2.Key × Value → Value → Prop} , (∀ (j : Nat) (q : L2.Key × Value), prs[j]? = some q → ∃ u, R j q u) → ∃ us : List Value, us.length = prs.length ∧ ∀ (j : Nat) (q : L2.Key × Value), prs[j]? = some q → ∃ u, us[j]? = some u ∧ R j q u
  | [], _, _ => ⟨[], rfl, fun j q e => by simp at e⟩
  | q :: prs, R, h => by
    obtain ⟨u, hu⟩ := h 0 q rfl
    obtain ⟨us, hl, hs⟩ := pairs_list (prs := prs) (R := fun j q u => R (j + 1) q u) fun j p e => h (j + 1) p (by simpa using e)
    refine ⟨u :: us, by simp [hl], fun j p e => ?_⟩
    cases j with
    | zero =>
      have e' : q = p := Option.some.inj e
      subst e'
      exact ⟨u, rfl, hu⟩
    | succ j =>
      obtain ⟨u', h1, h2⟩ := hs j p (by simpa using e)
      exact ⟨u', by simpa using h1, h2⟩
theorem call_dictTX {X : Cx} (hcalm : X.calm = true) : CallR X (.type "dict") (fun xs H Q => ∃ (a : Addr) (ps : List Addr) (kvs : List (L2.Key × V)), xs = [.ref a] ∧ TupX H a (ps.map V.ref) ∧ Paired (fun p kv => SqT X.K H p [kV kv.1, kv.2]) ps kvs ∧
    ∀ p, H p = none → Q (.ref p) (upd H p (.dK (mergeK [] kvs)))) := by
  intro pins s σ H xs us Q I r q
  obtain ⟨a, ps, kvs, ex, hq, hp, q⟩ := q
  subst ex
  obtain ⟨u, eu, rx⟩ := vals1 r
  subst eu
  cases rx
  obtain ⟨ob, ea, ec, ed⟩ := id hq
  obtain ⟨at_, hz, its, rv, tp⟩ := (show ObjOk X.prog X.w H s.heap a (.frz ob (.tup (ps.map V.ref))) from I.hok a _ ea)
  have ei := refs_at rv
  subst ei
  rw [List.length_map] at hz
  obtain ⟨prs, rel, hl, hpr⟩ := pairs_of I hp
  obtain ⟨vs, vl, hv⟩ := pairs_list (R := fun j q u => ∃ b, ps[j]? = some b ∧ IsTup s.heap b #[u, q.2] ∧ keyIs q.1 u = true) fun j q e => by
    obtain ⟨b, u, e1, e2, e3⟩ := hpr j q e
    exact ⟨u, b, e1, e2, e3⟩
  have zl : (vs.zip (prs.map (·.2))).length = ps.length := by rw [List.length_zip, List.length_map, vl, hl, Nat.min_self]
  have zat : ∀ j key v, (vs.zip (prs.map (·.2)))[j]? = some (key, v) → ∃ k b, prs[j]? = some (k, v) ∧ ps[j]? = some b ∧ IsTup s.heap b #[key, v] ∧ keyIs k key = true := fun j key v e => by
    obtain ⟨h1, h2⟩ := List.getElem?_zip_eq_some.mp e
    rw [List.getElem?_map] at h2
    cases z : prs[j]? with
    | none => rw [z] at h2; cases h2
    | some q =>
      rw [z] at h2
      have h9 : q.2 = v := Option.some.inj (show some q.2 = some v from h2)
      clear h2
      obtain ⟨u, a1, b, a2, a3, a4⟩ := hv j q z
      rw [a1] at h1
      obtain rfl : u = key := Option.some.inj h1
      subst h9
      exact ⟨q.1, b, z, a2, a3, a4⟩
  obtain ⟨o2, ho2, hc2, n2, hd2⟩ := id tp
  have oe : o2 = ob := by rw [at_] at ho2; exact (Option.some.inj ho2).symm
  subst oe
  have P := PairArg.tuple (prog := X.prog) (w := X.w) a (ps.map Value.ref).toArray (fun j => ps.getD j 0) (vs.zip (prs.map (·.2)))
  have OK : PlainSeq "tuple" s.heap a (ps.map Value.ref).toArray ∧ PairItems s.heap (ps.map Value.ref).toArray (fun j => ps.getD j 0) (vs.zip (prs.map (·.2))) := by
    refine ⟨⟨_, n2, at_, ec, ed, hd2⟩, by rw [zl]; simp, fun j k v e => ?_⟩
    obtain ⟨k', b, h1, h2, h3, h4⟩ := zat j k v e
    have hg : ps.getD j 0 = b := by rw [List.getD_eq_getElem?_getD, h2]; rfl
    refine ⟨by simp [h2], ?_⟩
    show PairAt s.heap (ps.getD j 0) k v
    rw [hg]
    exact .inl h3
  refine PySem.call_dict_pairs (knd := mixKind X.prog X.w) (kvs := prs) P (I.ok.hd hcalm) OK ⟨by rw [zl, hl], fun i key v e => ?_⟩ (by rw [zl]; exact hz) fun h' tk hd' k => ?_
  · obtain ⟨k', b, h1, _, _, h4⟩ := zat i key v e
    exact ⟨k', h1, h4⟩
  · have hm : (s.heap.objs.size == sysModules) = false := beq_eq_false_iff_ne.mpr (Nat.ne_of_gt I.big)
    have hlen : (mergeK [] kvs).length ≤ sizeLine := by
      refine Nat.le_trans (length_mergeK kvs []) ?_
      rw [List.length_nil, Nat.zero_add, rel.length, hl]
      exact hz
    exact ⟨.ref s.heap.objs.size, upd H s.heap.objs.size (.dK (mergeK [] kvs)), I.laid (t' := tk) (fun b o e => k b o (by simp) e) (Nat.le_refl _) (show ObjOk X.prog X.w _ _ _ (.dK (mergeK [] kvs)) from ⟨hlen, hm, merged [] prs, KV.merge rel .nil, hd'⟩), rfl, q _ (I.hok.fresh (Nat.le_refl _))⟩
end Lk
set_option Elab.async false
set_option linter.all false
set_option maxRecDepth 100000
set_option maxHeartbeats 1000000
/-! Part Q: sorted of pairs of a length and the list, or tuple, of ints that has it. -/
namespace Lk
open PySem PySem.Spec PyProof.Rows L2
/-- a list (or a tuple) of these ints -/
def SeqI (tup : Bool) (h : Heap) (b : Addr) (ns : List Int) : Prop := ∃ items : Array Value, (if tup = true then h.IsTuple b items else h.IsList b items) ∧ IntsAre items.toList ns
/-- the pair of its length and it -/
def IsLen (tup : Bool) (h : Heap) (v : Value) (ns : List Int) : Prop := ∃ a o t b m, v = .ref a ∧ h.get? a = some o ∧ o.cls = .type "tuple" ∧ o.data = .seq #[.int (ns.length : Int) t, .ref b] m ∧ SeqI tup h b ns
theorem SeqI.keeps {tup : Bool} {h h' : Heap} {b : Addr} {ns : List Int} (x : SeqI tup h b ns) (k : ∀ o, h.get? b = some o → h'.get? b = some o) : SeqI tup h' b ns := by
  obtain ⟨items, q, r⟩ := x
  refine ⟨items, ?_, r⟩
  cases tup with
  | true =>
    obtain ⟨o, e, y⟩ := q
    exact ⟨o, k o e, y⟩
  | false =>
    obtain ⟨o, e, y⟩ := q
    exact ⟨o, k o e, y⟩
def ltLen (ns ms : List Int) : Bool := if ns.length = ms.length then HT.lexLt ns ms else decide (ns.length < ms.length)
theorem lexLt_first : ∀ (ns ms : List Int) (h : ns.length = ms.length), SeqAt.firstLt (fun j => ns.getD j 0 == ms.getD j 0) (fun j => decide (ns.getD j 0 < ms.getD j 0)) false (List.range ns.length) = HT.lexLt ns ms := by
  have go : ∀ (ns ms : List Int) (pre1 pre2 : List Int), ns.length = ms.length → pre1.length = pre2.length → SeqAt.firstLt (fun j => (pre1 ++ ns).getD j 0 == (pre2 ++ ms).getD j 0) (fun j => decide ((pre1 ++ ns).getD j 0 < (pre2 ++ ms).getD j 0)) false (List.range' pre1.length ns.length) = HT.lexLt ns ms := by
    intro ns
    induction ns with
    | nil =>
      intro ms p1 p2 h hp
      match ms, h with
      | [], _ => rfl
    | cons x xs ih =>
      intro ms p1 p2 h hp
      match ms, h with
      | y :: ys, h =>
        have hx : (p1 ++ x :: xs).getD p1.length 0 = x := by simp [List.getD_eq_getElem?_getD]
        have hy : (p2 ++ y :: ys).getD p1.length 0 = y := by rw [hp]; simp [List.getD_eq_getElem?_getD]
        have ih := ih ys (p1 ++ [x]) (p2 ++ [y]) (Nat.succ.inj h) (by simp [hp])
        rw [List.append_assoc, List.append_assoc] at ih
        rw [List.length_cons, List.range'_succ]
        by_cases e : x = y
        · rw [SeqAt.firstLt_yes (by rw [hx, hy, e]; simp), HT.lexLt_cons, if_pos e, ← ih, List.length_append]
          rfl
        · rw [SeqAt.firstLt_no (by rw [hx, hy]; simpa using e), HT.lexLt_cons, if_neg e, hx, hy]
  intro ns ms h
  have := go ns ms [] [] h rfl
  rw [List.range_eq_range']
  exact this
theorem all_eq : ∀ (ns ms : List Int), ns.length = ms.length → (List.range ns.length).all (fun j => ns.getD j 0 == ms.getD j 0) = decide (ns = ms) := fun ns ms h => by
  rw [Bool.eq_iff_iff, List.all_eq_true, decide_eq_true_iff]
  constructor
  · intro g
    apply List.ext_getElem?
    intro i
    by_cases hi : i < ns.length
    · have := g i (List.mem_range.mpr hi)
      have this : ns.getD i 0 = ms.getD i 0 := by simpa using this
      rw [List.getD_eq_getElem?_getD, List.getD_eq_getElem?_getD, List.getElem?_eq_getElem hi, List.getElem?_eq_getElem (by omega)] at this
      rw [List.getElem?_eq_getElem hi, List.getElem?_eq_getElem (by omega)]
      exact congrArg some this
    · rw [List.getElem?_eq_none (by omega), List.getElem?_eq_none (by omega)]
  · intro e i _
    rw [e]
    simp
theorem ints_getL : ∀ {l : List Value} {ns : List Int} {j : Nat}, IntsAre l ns → (hj : j < l.length) → ∃ t, l[j] = .int (ns.getD j 0) t
  | _, _, _, .nil, hj => absurd hj (Nat.not_lt_zero _)
  | _, _, 0, .cons n t r, hj => ⟨t, rfl⟩
  | _, _, j + 1, .cons n t r, hj => by
    obtain ⟨t', e⟩ := ints_getL r (Nat.lt_of_succ_lt_succ hj)
    exact ⟨t', by simpa using e⟩
theorem ints_get {its : Array Value} {ns : List Int} (h : IntsAre its.toList ns) {j : Nat} (hj : j < its.size) : ∃ t, its[j] = .int (ns.getD j 0) t := by
  obtain ⟨l⟩ := its
  exact ints_getL (l := l) h hj
theorem ints_len : ∀ {l : List Value} {ns : List Int}, IntsAre l ns → l.length = ns.length
  | _, _, .nil => rfl
  | _, _, .cons n t r => by rw [List.length_cons, List.length_cons, ints_len r]
theorem ints_size {its : Array Value} {ns : List Int} (h : IntsAre its.toList ns) : its.size = ns.length := by
  rw [← ints_len h, Array.length_toList]
theorem ints_one {l : List Value} {ns ms : List Int} (h : IntsAre l ns) (g : IntsAre l ms) : ns = ms := (SrtO.iv_ints h).symm.trans (SrtO.iv_ints g)
section
variable {A : Around} {s : Shared}
theorem seq_eq {tup : Bool} {l b : Addr} {ns ms : List Int} (hl : SeqI tup s.heap l ns) (hb : SeqI tup s.heap b ms) (he : ns.length = ms.length) (hu : A.units < cLine) : SeqAt.EqAt A s (.ref l) (.ref b) (decide (ns = ms)) := by
  obtain ⟨i1, q1, r1⟩ := hl
  obtain ⟨i2, q2, r2⟩ := hb
  have z1 := ints_size r1
  have z2 := ints_size r2
  have sz : i1.size = i2.size := by rw [z1, z2, he]
  have ee : ∀ j (h1 : j < i1.size) (h2 : j < i2.size), SeqAt.EqAt A.in1 s i1[j] i2[j] ((fun j => ns.getD j 0 == ms.getD j 0) j) := fun j h1 h2 => by
    obtain ⟨t, e1⟩ := ints_get r1 h1
    obtain ⟨u, e2⟩ := ints_get r2 h2
    rw [e1, e2]
    exact SeqAt.EqAt.int_int _ _ _ _
  by_cases lb : l = b
  · subst lb
    have : ns = ms := by
      cases tup with
      | true =>
        obtain ⟨o, e, _, n, d⟩ := q1
        obtain ⟨o2, e2, _, n2, d2⟩ := q2
        rw [e] at e2
        cases e2
        rw [d] at d2
        cases d2
        exact ints_one r1 r2
      | false =>
        obtain ⟨o, e, _, n, d⟩ := q1
        obtain ⟨o2, e2, _, n2, d2⟩ := q2
        rw [e] at e2
        cases e2
        rw [d] at d2
        cases d2
        exact ints_one r1 r2
    rw [decide_eq_true this]
    exact SeqAt.EqAt.same _
  · refine SeqAt.EqAt.of_refs lb ?_
    rw [← all_eq ns ms he]
    cases tup with
    | true =>
      have := SeqAt.RcAt.tuples q1 q2 hu ee
      rw [← sz, Nat.min_self, z1] at this
      simpa using this
    | false =>
      have := SeqAt.RcAt.lists q1 q2 sz hu ee
      rw [z1] at this
      exact this
theorem seq_lt {tup : Bool} {l b : Addr} {ns ms : List Int} (hl : SeqI tup s.heap l ns) (hb : SeqI tup s.heap b ms) (he : ns.length = ms.length) (hu : A.units < cLine) : SeqAt.RcLt A s (.ref l) (.ref b) (HT.lexLt ns ms) := by
  obtain ⟨i1, q1, r1⟩ := hl
  obtain ⟨i2, q2, r2⟩ := hb
  have z1 := ints_size r1
  have z2 := ints_size r2
  have sz : i1.size = i2.size := by rw [z1, z2, he]
  have ee : ∀ j (h1 : j < i1.size) (h2 : j < i2.size), SeqAt.EqAt A.in1 s i1[j] i2[j] ((fun j => ns.getD j 0 == ms.getD j 0) j) := fun j h1 h2 => by
    obtain ⟨t, e1⟩ := ints_get r1 h1
    obtain ⟨u, e2⟩ := ints_get r2 h2
    rw [e1, e2]
    exact SeqAt.EqAt.int_int _ _ _ _
  have rr : ∀ j (h1 : j < i1.size) (h2 : j < i2.size), (fun j => ns.getD j 0 == ms.getD j 0) j = false → SeqAt.RcLt A.in1 s i1[j] i2[j] ((fun j => decide (ns.getD j 0 < ms.getD j 0)) j) := fun j h1 h2 _ => by
    obtain ⟨t, e1⟩ := ints_get r1 h1
    obtain ⟨u, e2⟩ := ints_get r2 h2
    rw [e1, e2]
    exact fun prog w E Q q => PyProof.Rows.lt_int q
  have fin : decide (i1.size < i2.size) = false := decide_eq_false (by omega)
  cases tup with
  | true =>
    have := SeqAt.RcLt.tuples q1 q2 hu ee rr
    rw [fin, ← sz, Nat.min_self, z1, lexLt_first ns ms he] at this
    exact this
  | false =>
    have := SeqAt.RcLt.lists q1 q2 hu ee rr
    rw [fin, ← sz, Nat.min_self, z1, lexLt_first ns ms he] at this
    exact this
end
/-! ### the order -/
theorem lexLt_iff : ∀ {ns ms : List Int}, HT.lexLt ns ms = true → HT.lexLt ms ns = false
  | [], [], h => by cases h
  | [], _ :: _, _ => rfl
  | _ :: _, [], h => by cases h
  | x :: xs, y :: ys, h => by
    rw [HT.lexLt_cons] at h ⊢
    by_cases e : x = y
    · rw [if_pos e] at h
      rw [if_pos e.symm]
      exact lexLt_iff h
    · rw [if_neg e] at h
      rw [if_neg (fun z => e z.symm)]
      have := of_decide_eq_true h
      exact decide_eq_false (by omega)
theorem lexLt_tr : ∀ {xs ys zs : List Int}, HT.lexLt ys xs = false → HT.lexLt zs ys = false → HT.lexLt zs xs = false
  | [], _, [], _, _ => rfl
  | [], _, _ :: _, _, _ => rfl
  | _ :: _, [], _, h, _ => by cases h
  | _ :: _, _ :: _, [], _, h => by cases h
  | x :: xs, y :: ys, z :: zs, h1, h2 => by
    rw [HT.lexLt_cons] at h1 h2 ⊢
    by_cases e1 : y = x
    · rw [if_pos e1] at h1
      by_cases e2 : z = y
      · rw [if_pos e2] at h2
        rw [if_pos (e2.trans e1)]
        exact lexLt_tr h1 h2
      · rw [if_neg e2] at h2
        have := of_decide_eq_false h2
        rw [if_neg (fun q => e2 (q.trans e1.symm))]
        exact decide_eq_false (by omega)
    · rw [if_neg e1] at h1
      have g1 := of_decide_eq_false h1
      by_cases e2 : z = y
      · rw [if_neg (fun q => e1 (e2.symm.trans q))]
        exact decide_eq_false (by omega)
      · rw [if_neg e2] at h2
        have g2 := of_decide_eq_false h2
        by_cases e3 : z = x
        · exact absurd (show y = x by omega) e1
        · rw [if_neg e3]
          exact decide_eq_false (by omega)
theorem swo_len (k : Value → List Int) : SrtO.Swo fun v u => ltLen (k v) (k u) := by
  refine ⟨fun x y h => ?_, fun x y z h1 h2 => ?_⟩
  · unfold ltLen at h ⊢
    by_cases e : (k x).length = (k y).length
    · rw [if_pos e] at h
      rw [if_pos e.symm]
      exact lexLt_iff h
    · rw [if_neg e] at h
      rw [if_neg (fun q => e q.symm)]
      have := of_decide_eq_true h
      exact decide_eq_false (by omega)
  · unfold ltLen at h1 h2 ⊢
    by_cases e1 : (k y).length = (k x).length
    · rw [if_pos e1] at h1
      by_cases e2 : (k z).length = (k y).length
      · rw [if_pos e2] at h2
        rw [if_pos (e2.trans e1)]
        exact lexLt_tr h1 h2
      · rw [if_neg e2] at h2
        have := of_decide_eq_false h2
        rw [if_neg (fun q => e2 (q.trans e1.symm))]
        exact decide_eq_false (by omega)
    · rw [if_neg e1] at h1
      have g1 := of_decide_eq_false h1
      by_cases e2 : (k z).length = (k y).length
      · rw [if_neg (fun q => e1 (e2.symm.trans q))]
        exact decide_eq_false (by omega)
      · rw [if_neg e2] at h2
        have g2 := of_decide_eq_false h2
        rw [if_neg (by omega)]
        exact decide_eq_false (by omega)
section
variable {prog : Program} {w : World} {A : Around} {s : Shared}
theorem len_cmp {tup : Bool} {vs : List Value} {k : Value → List Int} (hu : A.units < cLine) (hp : ∀ v ∈ vs, IsLen tup s.heap v (k v)) : SrtO.Cmp prog w A s (tuples' true) (fun p => p.1 ∈ vs) (SrtO.lt2 fun v u => ltLen (k v) (k u)) := by
  intro p q hm hm'
  have h1 := hp _ hm
  have h2 := hp _ hm'
  show wpAny (model prog w) A (keyLt' (tuples' true) p.1 q.1) (fun r s' => s' = s ∧ r = ltLen (k p.1) (k q.1)) (fun _ _ => False) s
  unfold ltLen
  generalize k p.1 = x at h1 ⊢
  generalize k q.1 = y at h2 ⊢
  obtain ⟨a, o, t, b, n, e, ho, hc, hd, hb⟩ := h1
  obtain ⟨a', o', t', b', n', e', ho', hc', hd', hb'⟩ := h2
  rw [e, e']
  refine PySem.W.kat_lt ho hd ho' hd' ?_
  show PySem.W.KatLex prog w A true (decide (2 < 2)) _ [(.int (x.length : Int) t, .int (y.length : Int) t'), (.ref b, .ref b')] 0 s
  refine PySem.W.kat_cons (SeqAt.EqAt.int_int _ t _ t' prog w _ _ ?_)
  refine PySem.W.kat_go (fun e1 => ?_) (fun e1 => ?_)
  · have ex : x.length = y.length := by
      have : (x.length : Int) = (y.length : Int) := by simpa using e1
      omega
    rw [if_pos ex]
    refine PySem.W.kat_yes (PySem.W.kat_cons (seq_eq hb hb' ex hu prog w _ _ ?_))
    refine PySem.W.kat_go (fun e2 => ?_) (fun e2 => ?_)
    · have ey : x = y := of_decide_eq_true e2
      have irr : HT.lexLt x y = false := by
        rw [ey]
        cases h : HT.lexLt y y with
        | false => rfl
        | true => exact h.symm.trans (lexLt_iff h)
      exact PySem.W.kat_yes (PySem.W.kat_nil ⟨rfl, irr.symm⟩)
    · refine PySem.W.kat_no (PySem.W.kat_one _ _ (seq_lt hb hb' ex hu prog w _ _ ?_))
      exact (show s = s ∧ HT.lexLt x y = HT.lexLt x y from ⟨rfl, rfl⟩)
  · have ex : ¬ x.length = y.length := fun z => by
      rw [z] at e1
      simp at e1
    rw [if_neg ex]
    refine PySem.W.kat_no (oneLt_int ⟨rfl, ?_⟩)
    rw [Bool.eq_iff_iff, decide_eq_true_iff, decide_eq_true_iff]
    omega
theorem IsLen.keeps {tup : Bool} {h h' : Heap} {v : Value} {ns : List Int} (p : IsLen tup h v ns) (k : ∀ b o, h.get? b = some o → h'.get? b = some o) : IsLen tup h' v ns := by
  obtain ⟨a, o, t, b, m, e, ho, hc, hd, hb⟩ := p
  exact ⟨a, o, t, b, m, e, k _ _ ho, hc, hd, hb.keeps fun o e => k _ _ e⟩
theorem len_firsts {tup : Bool} {h : Heap} : ∀ {vs : List Value}, (∀ v ∈ vs, ∃ ns, IsLen tup h v ns) → ∃ fs : List Value, PySem.W.KatTups h vs fs ∧ fs.length = vs.length ∧ ∀ f ∈ fs, ∃ x t, f = Value.int x t
  | [], _ => ⟨[], PySem.W.KatTups.nil, rfl, fun _ hm => by simp at hm⟩
  | v :: vs, hp => by
    obtain ⟨fs, h1, h2, h3⟩ := len_firsts (vs := vs) fun v' hm => hp v' (List.mem_cons_of_mem _ hm)
    obtain ⟨ns, a, o, t, b, m, e, ho, hc, hd, hb⟩ := hp v List.mem_cons_self
    refine ⟨.int (ns.length : Int) t :: fs, ⟨⟨a, o, _, m, e, ho, hc, hd, rfl⟩, h1⟩, by rw [List.length_cons, List.length_cons, h2], fun f hf => ?_⟩
    rcases List.mem_cons.mp hf with rfl | hf
    · exact ⟨_, _, rfl⟩
    · exact h3 f hf
/-- sorted(l) of such pairs -/
theorem sorted_lens {tup : Bool} {l : Addr} {vs : List Value} {k : Value → List Int} {E : Value → Shared → Prop} {Q : Value → Shared → Prop} (hu : A.in1.in1.units < cLine) (hl : s.heap.IsList l vs.toArray) (hz : vs.length ≤ sizeLine) (hp : ∀ v ∈ vs, IsLen tup s.heap v (k v))
    (h : ∀ (h' : Heap) (d : Addr) (out : List Value), SrtO.Srtd (fun v u => ltLen (k v) (k u)) out → SrtO.Stb (fun v u => ltLen (k v) (k u)) out vs → (∀ b o, s.heap.get? b = some o → h'.get? b = some o) → s.heap.objs.size ≤ d → (∃ n, h'.get? d = some (seqObj "list" out.toArray n)) → Q (.ref d) { s with heap := h' }) :
    wpAny (model prog w) A (call (.builtin "sorted") [.ref l]) Q E s := by
  refine SrtO.sorted_ord (swo_len k) hl hz (fun h2 h₁ a ha kk => ?_) fun out hs hb => ?_
  · intro h' keep
    have hp' : ∀ v ∈ vs, IsLen tup h' v (k v) := fun v hm => (hp v hm).keeps fun b o e => keep b o (kk b o e).1 (kk b o e).2
    obtain ⟨fs, g1, g2, g3⟩ := len_firsts fun v hm => ⟨_, hp' v hm⟩
    refine ⟨tuples' true, fun Q E hq => ?_, len_cmp hu hp'⟩
    refine PySem.W.kat_kind (T := .type "int") g1 (by omega) (fun f hm => ?_) (by rfl) ?_
    · obtain ⟨x, t, rfl⟩ := g3 f hm
      exact PySem.W.Looks.now
    · have e : (Value.type "int" != Value.type "tuple") = true := by first | decide +kernel | rfl | decide
      rw [e]
      exact hq
  · exact h _ _ out hs hb (fun b o e => sortedAll_old e) (Nat.le_succ _) (sortedAll_at s.heap vs out.toArray)
end
/-- sorted(xs), xs a list of such pairs (k says which): a new list, sorted, equal ones in their order -/
def rSortLen (K : PySem.W.Frag) (tup : Bool) : List V → Hp → VK → Prop := fun vs H Q => ∃ (a : Addr) (xs : List V) (k : V → List Int), vs = [V.ref a] ∧ SqL K H a xs ∧
  (∀ x ∈ xs, ∃ t b, x = V.ref t ∧ H t = some (.tup [.int ((k x).length : Int), .ref b]) ∧ (if tup = true then SqT K H b ((k x).map V.int) else SqL K H b ((k x).map V.int))) ∧
  ∀ ys p, SrtO.Srtd (fun x y => ltLen (k x) (k y)) ys → ys.Perm xs → H p = none → Q (.ref p) (upd H p (.lst ys))
theorem cr_sortedLen {X : Cx} {tup : Bool} (hu : X.A.units + 8 < cLine) : CallR X (.builtin "sorted") (rSortLen X.K tup) := by
  intro pins s σ H vs us Q I r h
  obtain ⟨a, xs, k, rfl, hs, hx, q⟩ := h
  obtain ⟨its, rv, hl, hz⟩ := I.list hs
  obtain ⟨u, rfl, ru⟩ := vals1 r
  obtain rfl : u = Value.ref a := ru
  obtain ⟨e1, e2⟩ := refs_back rv fun x m => by
    obtain ⟨t, b, e, _⟩ := hx x m
    exact ⟨t, e⟩
  refine sorted_lens (tup := tup) (k := fun u => k (backV u)) (by show X.A.units + 1 + 1 < cLine; omega) hl.isList (by rw [← rv.length]; exact hz) (fun v hv => ?_) fun h' d out h1 h2 kp hd hn => ?_
  · obtain ⟨t, rfl⟩ := e2 v hv
    have hm : V.ref t ∈ xs := by rw [e1]; exact List.mem_map.mpr ⟨_, hv, rfl⟩
    obtain ⟨t', b, e, ht, hb⟩ := hx _ hm
    cases e
    obtain ⟨_, its2, r2, o, ho, hc, n, hd⟩ := I.hok _ _ ht
    obtain ⟨u1, u2, rfl, ri, rj⟩ := vals2 r2
    obtain ⟨t1, rfl⟩ := ri
    obtain rfl : u2 = Value.ref b := rj
    refine ⟨t, o, t1, b, n, rfl, ho, hc, hd, ?_⟩
    cases tup with
    | true =>
      obtain ⟨its3, r3, p3, _⟩ := I.tuple hb
      exact ⟨_, p3, r3.ints⟩
    | false =>
      obtain ⟨its3, r3, p3, _⟩ := I.list hb
      exact ⟨_, p3.isList, r3.ints⟩
  · have h3 : ∀ u ∈ out, ∃ a, u = Value.ref a := fun u hu => e2 u (h2.perm.mem_iff.mp hu)
    obtain ⟨n, hn⟩ := hn
    have pm : (out.map backV).Perm xs := by
      rw [e1]
      exact h2.perm.map backV
    refine ⟨.ref d, upd H d (.lst (out.map backV)), I.laid (t' := s.toks) kp hd ⟨?_, out, n, L2.vals_back h3, hn⟩, rfl, q _ d (SrtO.srtd_map (lt := fun x y => ltLen (k x) (k y)) (f := backV) h1) pm (I.hok.fresh hd)⟩
    rw [pm.length_eq]
    exact hz
end Lk
set_option Elab.async false
set_option linter.all false
set_option maxRecDepth 100000
set_option maxHeartbeats 4000000
set_option pp.maxSteps 1200
set_option pp.deepTerms false
namespace K6
open PySem PySem.Spec PyProof.Rows L2 Lk
abbrev sLots : Stmt := top 21
/-! ### pure: the places of a code -/
/-- the places that are in a code -/
def rowC (n c : Nat) : List Nat := (List.range n).filter fun p => decide (c / 2 ^ p % 2 = 1)
def rowI (n c : Nat) : List Int := (rowC n c).map fun p : Nat => (p : Int)
theorem rowC_len (n c : Nat) : (rowC n c).length ≤ n := by
  have := List.length_filter_le (fun p => decide (c / 2 ^ p % 2 = 1)) (List.range n)
  rw [List.length_range] at this
  exact this
theorem rowC_lt {n c p : Nat} (h : p ∈ rowC n c) : p < n := List.mem_range.mp (List.mem_filter.mp h).1
theorem rowC_sub (n c : Nat) : (rowC n c).Sublist (List.range n) := List.filter_sublist
theorem rowC_congr {n c d : Nat} (h : ∀ p, p < n → c / 2 ^ p % 2 = d / 2 ^ p % 2) : rowC n c = rowC n d := by
  refine List.filter_congr fun p hp => ?_
  rw [h p (List.mem_range.mp hp)]
/-- each choice of places has a code -/
theorem rowC_has : ∀ (n : Nat) (q : Nat → Bool), ∃ c, c < 2 ^ n ∧ ∀ p, p < n → (c / 2 ^ p % 2 = 1 ↔ q p = true)
  | 0, _ => ⟨0, by decide, fun p h => absurd h (Nat.not_lt_zero p)⟩
  | n + 1, q => by
    obtain ⟨c, hc, h⟩ := rowC_has n q
    cases hq : q n with
    | false =>
      refine ⟨c, Nat.lt_of_lt_of_le hc (Nat.pow_le_pow_right (by decide) (Nat.le_succ n)), fun p hp => ?_⟩
      rcases Nat.lt_or_ge p n with h1 | h1
      · exact h p h1
      · have : p = n := by omega
        subst this
        rw [Nat.div_eq_of_lt hc, hq]
        decide
    | true =>
      refine ⟨c + 2 ^ n, by rw [Nat.pow_succ]; omega, fun p hp => ?_⟩
      rcases Nat.lt_or_ge p n with h1 | h1
      · have e : 2 ^ n = 2 ^ p * (2 * 2 ^ (n - p - 1)) := by
          rw [← Nat.pow_succ', ← Nat.pow_add]
          congr 1
          omega
        rw [e, Nat.add_mul_div_left _ _ (Nat.pow_pos (by decide)), Nat.add_mul_mod_self_left]
        exact h p h1
      · have : p = n := by omega
        subst this
        rw [Nat.add_div_right _ (Nat.pow_pos (by decide)), Nat.div_eq_of_lt hc, hq]
        decide
/-- the names at these places -/
def namesAt (zs : List Str) (q : List Nat) : List Str := q.map fun p => zs.getD p Str.empty
theorem namesAt_sub (zs : List Str) (n c : Nat) (h : n = zs.length) : (namesAt zs (rowC n c)).Sublist zs := by
  subst h
  have e : (List.range zs.length).map (fun p => zs.getD p Str.empty) = zs := by
    refine List.ext_getElem (by simp) fun i h1 h2 => ?_
    simp [List.getElem?_eq_getElem h2]
  have := (rowC_sub zs.length c).map fun p => zs.getD p Str.empty
  rw [e] at this
  exact this
theorem namesAt_has {zs ys : List Str} (nd : zs.Nodup) (h : ys.Sublist zs) : ∃ c, c < 2 ^ zs.length ∧ namesAt zs (rowC zs.length c) = ys := by
  obtain ⟨c, hc, hp⟩ := rowC_has zs.length fun p => decide (zs.getD p Str.empty ∈ ys)
  refine ⟨c, hc, ?_⟩
  have e : (List.range zs.length).map (fun p => zs.getD p Str.empty) = zs := by
    refine List.ext_getElem (by simp) fun i h1 h2 => ?_
    simp [List.getElem?_eq_getElem h2]
  have f : namesAt zs (rowC zs.length c) = zs.filter fun z => decide (z ∈ ys) := by
    unfold namesAt rowC
    have g : ((List.range zs.length).filter fun p => decide (c / 2 ^ p % 2 = 1)) = (List.range zs.length).filter ((fun z => decide (z ∈ ys)) ∘ fun p => zs.getD p Str.empty) := by
      refine List.filter_congr fun p hp' => ?_
      have := hp p (List.mem_range.mp hp')
      rw [Bool.eq_iff_iff, decide_eq_true_iff, this]
      rfl
    rw [g, ← List.filter_map, e]
  have k := sub_key (fun z : Str => z) h (by rw [List.map_id']; exact nd)
  rw [f]
  rw [List.map_id'] at k
  exact k
/-! ### walks of ranges as values -/
theorem walk_rangeV {lo : Int} {n : Nat} : Walk (Itr lo n) ((List.range n).map fun i => V.int (lo + (i : Nat))).length (fun _ => True) (YAt ((List.range n).map fun i => V.int (lo + (i : Nat)))) := by
  have e : ((List.range n).map fun i => V.int (lo + (i : Nat))).length = n := by rw [List.length_map, List.length_range]
  rw [e]
  refine Walk.mono (walk_range (lo := lo) (n := n)) (fun _ h => h) ?_
  rintro i H x H' hi _ ⟨h1, h2⟩
  refine ⟨h1, ?_⟩
  rw [List.getElem?_map, List.getElem?_range hi, h2]
  rfl
def rShrN : R2 := fun x y H Q => ∃ (i : Int) (k : Nat), x = .int i ∧ y = .int (k : Int) ∧ Q (.int (i / 2 ^ k)) H
def rOdd1 : R2 := fun x y H Q => ∃ n : Nat, x = .int (n : Int) ∧ y = .int 1 ∧ Q (.int ((n % 2 : Nat) : Int)) H
def tBitT (K : PySem.W.Frag) (i j : Nat) : TT := fun σ H Q => tOp rOdd1 (tOp rShrN (tVar i) (tVar j)) (tC (.int 1)) σ H fun x H' => ∃ k, TruV K x H' k ∧ Q k H'
def asgScope (st : Stmt) (i : Nat) : Scope := match (defBody st).getD i (.Pass ⟨0, 0, 0, 0⟩) with
  | .Assign _ (.ListComp _ _ sc _) _ => sc
  | _ => defScope st
def retScope (st : Stmt) (i : Nat) : Scope := match (defBody st).getD i (.Pass ⟨0, 0, 0, 0⟩) with
  | .Return (some (.Call _ [.ListComp _ _ sc _] _ _)) _ => sc
  | _ => defScope st
theorem fm_row (n c : Nat) : ∀ ps : List Nat, (ps.filterMap fun p => if c / 2 ^ p % 2 = 1 then some (V.int ((0 : Int) + (p : Nat))) else none) = ((ps.filter fun p => decide (c / 2 ^ p % 2 = 1)).map fun p : Nat => (p : Int)).map V.int
  | [] => rfl
  | p :: ps => by
    have ih := fm_row n c ps
    by_cases h : c / 2 ^ p % 2 = 1
    · rw [List.filterMap_cons, if_pos h, List.filter_cons_of_pos (by simpa using h), List.map_cons, List.map_cons, ih, Int.zero_add]
    · rw [List.filterMap_cons, if_neg h, List.filter_cons_of_neg (by simpa using h), ih]
theorem fm_at (zs : List Str) : ∀ q : List Nat, ((q.map fun p : Nat => (p : Int)).filterMap fun p => some (V.str (zs.getD p.toNat Str.empty))) = (namesAt zs q).map V.str
  | [] => rfl
  | p :: q => by
    have ih := fm_at zs q
    rw [List.map_cons, List.filterMap_cons]
    show V.str _ :: _ = V.str _ :: _
    rw [ih, Int.toNat_natCast]
    rfl
section
variable {P : Program} {w : World} {K : PySem.W.Frag} {mg : Str → Option Value} {base : Heap} {f : Addr} {fd : FuncData}
/-! ### Circle.__len__ -/
def spCircLen (C : Addr) : Sp := fun vs H Q _ => ∃ (c : Addr) (zs : List Str), vs = [.ref c] ∧ CircAt H C c zs ∧ Q (.int zs.length) H
theorem scCircLen : FnScope ["self"] ["self"] (defScope sCircLen) := ⟨rfl, rfl, rfl, by decide +kernel, rfl, by decide +kernel, by decide +kernel⟩
theorem ok_circLen {C fC : Addr} (F : Fun K "__len__" "Circle.__len__" sCircLen f fd) (T : Bl mg) (CC : CircC K C fC) : FnOk P w K mg base CX0 1 f fd ["self"] (spCircLen C) := by
  refine F.ok scCircLen (fun vs H Q E h => ?_) (fun cdv A outer s H vs Q E hr h => ?_)
  · obtain ⟨c, zs, rfl, _⟩ := h
    rfl
  · obtain ⟨c, zs, rfl, ⟨cdx, nm, ec, en⟩, k⟩ := h
    refine ⟨_, pss_one (ps_ret (pe_callB call_len_seq (by rfl) T.len PySem.boot_len (pa_cons (pe_fld (pv 0) rfl) pa_nil))), ?_⟩
    refine ⟨_, rfl, c, C, cdx, _, .ref nm, rfl, ec, CC.cls, CC.nm, rfl, nm, _, rfl, .inr en.sq, ?_⟩
    rw [List.length_map]
    exact k
/-! ### lots -/
def RelL (D : Addr) (H : Hp) (v : V) (ns : List Int) : Prop := ∃ t, v = V.ref t ∧ H t = some (.lst (ns.map V.int)) ∧ t ≠ D
def RelPr (H : Hp) (v : V) (ns : List Int) : Prop := ∃ t b, v = V.ref t ∧ H t = some (.tup [.int (ns.length : Int), .ref b]) ∧ H b = some (.lst (ns.map V.int))
def RelT (H : Hp) (v : V) (ys : List Str) : Prop := ∃ t, v = V.ref t ∧ H t = some (.tup (ys.map V.str))
theorem RelPr.inj {H : Hp} {v : V} {ns ms : List Int} (h : RelPr H v ns) (g : RelPr H v ms) : ns = ms := by
  obtain ⟨t, b, e1, e2, e3⟩ := h
  obtain ⟨t', b', f1, f2, f3⟩ := g
  rw [e1] at f1
  cases f1
  rw [e2] at f2
  injection f2 with f2
  injection f2 with f2
  injection f2 with f4 f5
  injection f5 with f5 _
  injection f5 with f5
  subst f5
  rw [e3] at f3
  injection f3 with f3
  injection f3 with f3
  exact (List.map_inj_right (fun a b h => V.int.inj h)).mp f3
/-- all choices of the names, by their number, then their places -/
def LotsOk (zs : List Str) (rws : List (List Str)) : Prop := ∃ ord : List (List Nat), rws = ord.map (namesAt zs) ∧ ord.Perm ((List.range (2 ^ zs.length)).map (rowC zs.length)) ∧ SrtO.Srtd (fun x y : List Nat => ltLen (x.map fun p : Nat => (p : Int)) (y.map fun p : Nat => (p : Int))) ord
def spLots (C : Addr) : Sp := fun vs H Q _ => ∃ (c : Addr) (zs : List Str), vs = [.ref c] ∧ CircAt H C c zs ∧ zs.length ≤ 6 ∧
  ∀ (r : Addr) (ts : List V) (rws : List (List Str)) (H' : Hp), Same H H' → H' r = some (.tup ts) → Paired (RelT H') ts rws → LotsOk zs rws → Q (.ref r) H'
theorem scLots : FnScope ["circle", "codes", "rows", "code", "place", "ordered", "row", "_", "places"] ["circle"] (defScope sLots) := ⟨rfl, rfl, rfl, by decide +kernel, rfl, by decide +kernel, by decide +kernel⟩
def tLenC (C : Addr) (i : Nat) : TE := tCB (rLenI C (spCircLen C)) (tCons (tVar i) tNil)
def tPlaces (K : PySem.W.Frag) : TE := fun σ H Q => tLc (iList K (tVar 8)) (gName 4) tYes (tOp (rIxT K) (tFld K (tVar 0) "names") (tVar 4)) [4] σ H fun x H1 => kTup K x H1 Q
theorem ok_lots {C fC fL : Addr} {fdL : FuncData} (F : Fun K "lots" "lots" sLots f fd) (T : Bl mg) (Cc : Cn mg) (CC : CircC K C fC) (ML : MethC K C "__len__" fL) (FL : Fun K "__len__" "Circle.__len__" sCircLen fL fdL) (bL : Binds K fdL ["self"] []) :
    FnOk P w K mg base CX0 3 f fd ["circle"] (spLots C) := by
  have GL : FnOk P w K mg base CX0 1 fL fdL ["self"] (spCircLen C) := ok_circLen FL T CC
  refine F.ok scLots (fun vs H Q E h => ?_) (fun cdv A outer s H vs Q E hr h => ?_)
  · obtain ⟨c, zs, rfl, _⟩ := h
    rfl
  · obtain ⟨c, zs, rfl, hc, z6, k⟩ := h
    have nd := scLots.nd
    have hu := hu_of hr
    have hu8 : _ + 8 < cLine := Nat.lt_of_le_of_lt (Nat.add_le_add_left (by decide) _) (room64 hr)
    refine ⟨_, pss_cons (ps_set (i := 1) nd rfl (.inl rfl) (pe_callTy cr_range1 rfl T.range boot_range (pa_cons (pe_op op_oneShl pe_int (pe_callB (call_lenI GL ML.at_ ML.fn bL hr) (by rfl) T.len PySem.boot_len (pa_cons (pv 0) pa_nil))) pa_nil)))
      (pss_cons (ps_setLc (i := 2) (own := [("code", 3)]) (g := gName 3) (tt := tYes) (te := tLc (iRng1 (tCons (tLenC C 0) tNil)) (gName 4) (tBitT K 3 4) (tVar 4) [4]) rfl nd rfl rfl (sw_true rfl rfl rfl (by decide +kernel)) (pi_rng (pv 1))
          (blkOk_by (N := ["circle", "codes", "rows", "code", "place", "ordered", "row", "_", "places"]) (sc := defScope sLots) (by decide +kernel)) (fun _ _ _ _ _ => pg_name (i := 3) nd rfl (.inr rfl)) (fun _ _ _ _ _ => pts_nil)
          (fun _ _ _ _ _ => pe_lc (own := [("place", 4)]) (g := gName 4) (tt := tBitT K 3 4) (te := tVar 4) rfl nd (pi_range1 (by rfl) T.range (pa_cons (pe_callB (call_lenI GL ML.at_ ML.fn bL hr) (by rfl) T.len PySem.boot_len (pa_cons (pv 0) pa_nil)) pa_nil))
            (blkOk_by (N := ["circle", "codes", "rows", "code", "place", "ordered", "row", "_", "places"]) (sc := relS (asgScope sLots 1) (defScope sLots)) (by decide +kernel)) (fun _ _ _ _ _ => pg_name (i := 4) nd rfl (.inl rfl))
            (fun _ _ _ _ _ => pts_one (pt_truth (pe_op op_odd (pe_op op_shrN (pv 3) (pv 4)) pe_int) (by intro _; rfl))) (fun _ _ _ _ _ => pv 4)))
      (pss_cons (ps_set (i := 5) nd rfl (.inl rfl) (pe_callB (cr_sortedLen (tup := false) hu8) (by rfl) Cc.sorted boot_sorted (pa_cons (pe_lc (own := [("row", 6)]) (g := gName 6) (tt := tYes) (te := tTup (tCons (tCB (rLenS K) (tCons (tVar 6) tNil)) (tCons (tVar 6) tNil))) rfl nd (pi_list (pv 2))
          (blkOk_by (N := ["circle", "codes", "rows", "code", "place", "ordered", "row", "_", "places"]) (sc := defScope sLots) (by decide +kernel)) (fun _ _ _ _ _ => pg_name (i := 6) nd rfl (.inl rfl)) (fun _ _ _ _ _ => pts_nil)
          (fun _ _ _ _ _ => pe_tup (pa_cons (pe_callB call_len_seq (by rfl) T.len PySem.boot_len (pa_cons (pv 6) pa_nil)) (pa_cons (pv 6) pa_nil)))) pa_nil)))
      (pss_one (ps_ret (pe_tupleOf (by rfl) Cc.tuple (pe_lc (own := [("_", 7), ("places", 8)]) (g := gTup K 2 (gCons (gName 7) (gCons (gName 8) gNil))) (tt := tYes)
          (te := tPlaces K) rfl nd (pi_list (pv 5))
          (blkOk_by (N := ["circle", "codes", "rows", "code", "place", "ordered", "row", "_", "places"]) (sc := defScope sLots) (by decide +kernel)) (fun _ _ _ _ _ => pg_tup rfl (pgs_cons (pg_name (i := 7) nd rfl (.inl rfl)) (pgs_cons (pg_name (i := 8) nd rfl (.inl rfl)) pgs_nil))) (fun _ _ _ _ _ => pts_nil)
          (fun _ _ _ _ _ => pe_tupleOf (by rfl) Cc.tuple (pe_lc (own := [("place", 4)]) (g := gName 4) (tt := tYes) (te := tOp (rIxT K) (tFld K (tVar 0) "names") (tVar 4)) rfl nd (pi_list (pv 8))
            (blkOk_by (N := ["circle", "codes", "rows", "code", "place", "ordered", "row", "_", "places"]) (sc := relS (retScope sLots 3) (defScope sLots)) (by decide +kernel)) (fun _ _ _ _ _ => pg_name (i := 4) nd rfl (.inl rfl)) (fun _ _ _ _ _ => pts_nil)
            (fun _ _ _ _ _ => pe_ix ix_tup (pe_fld (pv 0) rfl) (pv 4) (fun _ _ => rfl)))))))))), ?_⟩
    obtain ⟨cdx, nm, ec, en⟩ := id hc
    have hcs : ∀ {H'}, Same H H' → CircAt H' C c zs := fun s => ⟨cdx, nm, s _ _ ec, en.same s⟩
    refine ⟨_, rfl, c, cdx, _, rfl, ec, c, zs, rfl, hc, _, rfl, by omega, by omega, zs.length, rfl, rfl, by omega, _, rfl, fun p np => ?_⟩
    have eI : ((2 : Int) ^ zs.length) = ((2 ^ zs.length : Nat) : Int) := by push_cast; rfl
    rw [eI]
    have N64 : 2 ^ zs.length ≤ 64 := Nat.le_trans (Nat.pow_le_pow_right (by decide) z6) (by decide)
    have s1 : Same H (upd H p (.rng 0 ((2 ^ zs.length : Nat) : Int))) := same_new np
    have ep : upd H p (.rng 0 ((2 ^ zs.length : Nat) : Int)) p = some (.rng 0 ((2 ^ zs.length : Nat) : Int)) := upd_same
    generalize upd H p (.rng 0 ((2 ^ zs.length : Nat) : Int)) = H1 at s1 ep
    obtain ⟨N, hN⟩ : ∃ N, N = 2 ^ zs.length := ⟨_, rfl⟩
    rw [← hN] at ep N64
    refine ⟨_, rfl, p, 0, (N : Int), rfl, ep, ⟨by decide, by decide, by omega, by omega⟩, fun D nD => ?_⟩
    have eT : ((N : Int) - 0).toNat = N := by omega
    rw [eT]
    refine lc_relD (walk_rangeV (lo := 0) (n := N)) (List.range N) (fun i => V.int ((0 : Int) + (i : Nat))) (fun b => rowI zs.length b) (RelL D) nD (fun Ha Hb v b kb r => ?_) rfl (by rw [List.length_range]; omega) (fun _ _ => trivial) ?_ ?_
    · obtain ⟨t, e1, e2, e3⟩ := r
      exact ⟨t, e1, kb _ _ e3 e2, e3⟩
    · intro i b H2 R hb s2 nD2 kR
      have sH2 := s1.trans s2
      refine ⟨rfl, _, rfl, c, cdx, _, rfl, sH2 _ _ ec, c, zs, rfl, hcs sH2, _, rfl, by omega, by omega, _, rfl, by omega, by omega, fun D2 nD2' => ?_⟩
      refine lc_fm (walk_range (lo := 0) (n := ((zs.length : Nat) : Int).toNat)) (List.range zs.length) (fun q => if b / 2 ^ q % 2 = 1 then some (V.int ((0 : Int) + (q : Nat))) else none) (by rw [List.length_range, Int.toNat_natCast]) (by omega) nD2' (fun _ _ => trivial) ?_ ?_
      · rintro j u q H4 H4' R2 Rn2 hq s4 ⟨rfl, rfl⟩ g1 g2
        have hj : j < zs.length := by
          have := (List.getElem?_eq_some_iff.mp hq).1
          rw [List.length_range] at this
          exact this
        obtain rfl : j = q := by
          rw [List.getElem?_range hj] at hq
          exact Option.some.inj hq
        refine ⟨rfl, _, rfl, _, rfl, _, j, rfl, (show V.int ((0 : Int) + (j : Nat)) = V.int (j : Int) by rw [Int.zero_add]), b / 2 ^ j, (show V.int (((0 : Int) + (b : Nat)) / 2 ^ j) = V.int ((b / 2 ^ j : Nat) : Int) by rw [Int.zero_add]; push_cast; rfl), rfl, _, rfl, ?_⟩
        by_cases h : b / 2 ^ j % 2 = 1
        · exact iteA (by rw [h]; rfl) ⟨_, rfl, g1 _ _ (if_pos h) (Same.refl _)⟩
        · have h0 : b / 2 ^ j % 2 = 0 := by omega
          exact iteB (by rw [h0]; rfl) (g2 _ (if_neg h) (Same.refl _))
      · intro H4 s4 eD2
        rw [fm_row zs.length b] at eD2
        exact kR H4 (.ref D2) s4 ⟨D2, rfl, eD2, fun z => nD2 (by rw [← z]; exact nD2')⟩
    · intro H3 ts s3 eD pr
      obtain ⟨ys, y1, y2, y3⟩ := paired_zip pr
      have yl : ys.length = N := by rw [← List.length_map (f := (·.2)), y2, List.length_map, List.length_range]
      refine ⟨_, rfl, D, rfl, ⟨_, SqL.of eD⟩, fun E nE => ?_⟩
      have relE : ∀ Ha Hb v b, KeepB E Ha Hb → (∃ t q, v = V.ref t ∧ Ha t = some (.tup [.int ((b : List Int).length : Int), .ref q]) ∧ Ha q = some (.lst (b.map V.int)) ∧ t ≠ E ∧ q ≠ E) → (∃ t q, v = V.ref t ∧ Hb t = some (.tup [.int (b.length : Int), .ref q]) ∧ Hb q = some (.lst (b.map V.int)) ∧ t ≠ E ∧ q ≠ E) := fun Ha Hb v b kb ⟨t, q, e1, e2, e3, e4, e5⟩ => ⟨t, q, e1, kb _ _ e4 e2, kb _ _ e5 e3, e4, e5⟩
      refine lc_relD (walk_list (a := D) (xs := ts)) ys (·.1) (·.2) (fun H v b => ∃ t q, v = V.ref t ∧ H t = some (.tup [.int ((b : List Int).length : Int), .ref q]) ∧ H q = some (.lst (b.map V.int)) ∧ t ≠ E ∧ q ≠ E) nE relE y1.symm (by omega) (fun H s => s.seq (SqL.of eD)) ?_ ?_
      · rintro i ⟨yv, yn⟩ H4 R hy s4 nE4 kR
        obtain ⟨t, et, eh, _⟩ := y3 _ (List.mem_of_getElem? hy)
        dsimp only at et eh
        subst et
        have eh4 := s4 _ _ eh
        refine ⟨rfl, _, rfl, t, _, rfl, .inl (SqL.of eh4), _, rfl, few_ok rfl, fun q nq => ?_⟩
        rw [List.length_map]
        refine kR _ (.ref q) (same_new nq) ⟨q, t, rfl, upd_same, same_new nq _ _ eh4, fun z => nE4 (by rw [← z]; exact nq), fun z => ?_⟩
        rw [z, nE] at eh
        cases eh
      · intro H5 ts2 s5 eE pr2
        rw [y2] at pr2
        have pP : Paired (RelPr H5) ts2 ((List.range N).map fun b => rowI zs.length b) := Paired.mapP pr2 fun v b ⟨t, q, e1, e2, e3, _⟩ => ⟨t, q, e1, e2, e3⟩
        obtain ⟨ws, w1, w2, w3⟩ := paired_zip pP
        classical
        obtain ⟨kN, hkN⟩ : ∃ kN : V → List Nat, kN = fun x => if h : ∃ q : List Nat, RelPr H5 x (q.map fun p : Nat => (p : Int)) then h.choose else [] := ⟨_, rfl⟩
        have kOk : ∀ z ∈ ws, ∃ b, b < N ∧ z.2 = rowI zs.length b ∧ kN z.1 = rowC zs.length b := fun z hz => by
          have m : z.2 ∈ (List.range N).map fun b => rowI zs.length b := by rw [← w2]; exact List.mem_map.mpr ⟨z, hz, rfl⟩
          obtain ⟨b, hb, e⟩ := List.mem_map.mp m
          refine ⟨b, List.mem_range.mp hb, e.symm, ?_⟩
          have r := w3 z hz
          rw [← e] at r
          have ex : ∃ q : List Nat, RelPr H5 z.1 (q.map fun p : Nat => (p : Int)) := ⟨_, r⟩
          rw [hkN]
          show (if h : _ then _ else _) = _
          rw [dif_pos ex]
          have := RelPr.inj ex.choose_spec r
          exact (List.map_inj_right (fun a b h => Int.ofNat.inj h)).mp this
        have kmap : ts2.map kN = (List.range N).map (rowC zs.length) := by
          have e1 : ws.map (fun z => kN z.1) = ws.map fun z => z.2.map Int.toNat := List.map_congr_left fun z hz => by
            obtain ⟨b, _, e2, e3⟩ := kOk z hz
            rw [e2, e3]
            unfold rowI
            rw [List.map_map]
            simp [Function.comp_def]
          rw [← w1, List.map_map]
          show ws.map (fun z => kN z.1) = _
          rw [e1]
          have : ws.map (fun z => z.2.map Int.toNat) = (ws.map (·.2)).map fun x => x.map Int.toNat := by rw [List.map_map]; rfl
          rw [this, w2, List.map_map]
          refine List.map_congr_left fun b _ => ?_
          show (rowI zs.length b).map Int.toNat = _
          unfold rowI
          rw [List.map_map]
          simp [Function.comp_def]
        have relK : ∀ x ∈ ts2, RelPr H5 x ((kN x).map fun p : Nat => (p : Int)) := fun x hx => by
          rw [← w1] at hx
          obtain ⟨z, hz, rfl⟩ := List.mem_map.mp hx
          obtain ⟨b, _, e2, e3⟩ := kOk z hz
          rw [e3]
          have := w3 z hz
          rw [e2] at this
          exact this
        refine ⟨E, ts2, fun x => (kN x).map fun p : Nat => (p : Int), rfl, SqL.of eE, fun x hx => ?_, fun os p srt perm np => ?_⟩
        · obtain ⟨t, b, e1, e2, e3⟩ := relK x hx
          exact ⟨t, b, e1, e2, by rw [if_neg (by decide)]; exact SqL.of e3⟩
        have s6 : Same H5 (upd H5 p (.lst os)) := same_new np
        have ep6 : upd H5 p (.lst os) p = some (.lst os) := upd_same
        generalize upd H5 p (.lst os) = H6 at s6 ep6
        have relO : ∀ x ∈ os, RelPr H6 x ((kN x).map fun p : Nat => (p : Int)) := fun x hx => by
          obtain ⟨t, b, e1, e2, e3⟩ := relK x (perm.mem_iff.mp hx)
          exact ⟨t, b, e1, s6 _ _ e2, s6 _ _ e3⟩
        have ordP : (os.map kN).Perm ((List.range N).map (rowC zs.length)) := by
          rw [← kmap]
          exact perm.map kN
        have osl : os.length = N := by
          have := ordP.length_eq
          rw [List.length_map, List.length_map, List.length_range] at this
          exact this
        have sA : Same H H6 := ((s1.trans s3).trans s5).trans s6
        refine ⟨_, rfl, p, rfl, ⟨_, SqL.of ep6⟩, fun G nG => lc_relQ (walk_list (a := p) (xs := os)) nG os id (fun y => namesAt zs (kN y)) RelT (fun Ha Hb v b kp r => ?_) (by rw [List.map_id]) (by omega) (fun H s => s.seq (SqL.of ep6)) ?_ ?_⟩
        · obtain ⟨t, e1, e2⟩ := r
          exact ⟨t, e1, kp _ _ e2 fun _ z => by cases z⟩
        · intro i y H7 R hy s7 kR
          obtain ⟨t, b, e1, e2, e3⟩ := relO y (List.mem_of_getElem? hy)
          have small : ∀ q ∈ kN y, q < zs.length := fun q hq => by
            have m := ordP.mem_iff.mp (List.mem_map.mpr ⟨y, List.mem_of_getElem? hy, rfl⟩)
            obtain ⟨b, _, e⟩ := List.mem_map.mp m
            rw [← e] at hq
            exact rowC_lt hq
          have kl : (kN y).length ≤ 6 := by
            have m := ordP.mem_iff.mp (List.mem_map.mpr ⟨y, List.mem_of_getElem? hy, rfl⟩)
            obtain ⟨b, _, e⟩ := List.mem_map.mp m
            rw [← e]
            exact Nat.le_trans (rowC_len _ _) z6
          have e3' := s7 _ _ e3
          refine ⟨t, _, e1, SqT.of (s7 _ _ e2), rfl, _, _, rfl, _, _, rfl, rfl, rfl, _, rfl, b, rfl, ⟨_, SqL.of e3'⟩, fun E2 nE2 => ?_⟩
          refine lc_fm (walk_list (a := b) (xs := ((kN y).map fun p : Nat => (p : Int)).map V.int)) ((kN y).map fun p : Nat => (p : Int)) (fun p => some (V.str (zs.getD p.toNat Str.empty))) (by simp only [List.length_map]) (by simp only [List.length_map]; omega) nE2 (fun H s => s.seq (SqL.of e3')) ?_ ?_
          · rintro j u q H8 H8' R2 Rn2 hq s8 ⟨rfl, hu⟩ g1 g2
            obtain rfl : V.int q = u := by
              rw [List.getElem?_map, hq] at hu
              exact Option.some.inj hu
            obtain ⟨m, hm, rfl⟩ := List.mem_map.mp (List.mem_of_getElem? hq)
            have ml := small m hm
            have sH8 := (sA.trans s7).trans s8
            refine ⟨rfl, _, rfl, c, C, cdx, _, .ref nm, rfl, sH8 _ _ ec, CC.cls, CC.nm, rfl, _, rfl, nm, zs.map V.str, (m : Int), _, rfl, rfl, (en.same sH8).sq, atN (i := m) (v := V.str (zs.getD m Str.empty)) ?_, g1 _ _ (by rw [Int.toNat_natCast]) (Same.refl _)⟩
            rw [List.getElem?_map, List.getD_eq_getElem?_getD, List.getElem?_eq_getElem ml]
            rfl
          · intro H8 s8 e8
            rw [fm_at] at e8
            exact .inl ⟨E2, _, rfl, SqL.of e8, fun T nT => kR _ _ (s8.trans (same_new nT)) ⟨T, rfl, upd_same⟩⟩
        · intro H9 ts9 s9 eG pr9
          refine .inl ⟨G, _, rfl, SqL.of eG, fun r nr => ?_⟩
          have s10 := same_new (o := HO.tup ts9) nr
          refine k r ts9 (os.map fun y => namesAt zs (kN y)) _ ((sA.trans s9).trans s10) upd_same (Paired.mapP pr9 fun v b ⟨t, e1, e2⟩ => ⟨t, e1, s10 _ _ e2⟩) ⟨os.map kN, by rw [List.map_map]; rfl, ?_, SrtO.srtd_map srt⟩
          rw [← hN]
          exact ordP
end
end K6
set_option Elab.async false
set_option linter.all false
set_option maxRecDepth 100000
set_option maxHeartbeats 4000000
set_option pp.maxSteps 1200
set_option pp.deepTerms false
namespace K6
open PySem PySem.Spec PyProof.Rows L2 Lk
abbrev sFromTo : Stmt := top 11
abbrev sWithin : Stmt := top 24
abbrev sPLess : Stmt := top 25
abbrev sTellsAll : Stmt := top 50
abbrev sBack : Stmt := top 51
abbrev sRefBound : Stmt := top 59
/-- a def that is called: where it stands -/
structure At (K : PySem.W.Frag) (mg : Str → Option Value) (x : Str) (f : Addr) (fd : FuncData) (ps : List Str) : Prop where
  kp : PySem.W.keepIn K (.ref f) = true
  b : Binds K fd ps []
  m : mg x = some (.ref f)
theorem via {X G : Prop} (f : X → G) (x : X) : G := f x
theorem all_in (zs : List Str) : ∀ ys : List Str, (ys.map fun y => decide (y ∈ zs)).all id = ys.all fun y => decide (y ∈ zs)
  | [] => rfl
  | y :: ys => by
    have ih := all_in zs ys
    rw [List.map_cons, List.all_cons, List.all_cons, ih]
    rfl
theorem fm_some {α : Type} (q : α → V) : ∀ xs : List α, (xs.filterMap fun x => some (q x)) = xs.map q
  | [] => rfl
  | x :: xs => by rw [List.filterMap_cons, List.map_cons, fm_some q xs]
section
variable {P : Program} {w : World} {K : PySem.W.Frag} {mg : Str → Option Value} {base : Heap} {f : Addr} {fd : FuncData}
/-! ### is_from_to, refuse_bound -/
def spFromTo : Sp := fun vs H Q _ => ∃ i lo hi : Int, vs = [.int i, .int lo, .int hi] ∧ lo ≤ i ∧ i ≤ hi ∧ Q (.bl true) H
theorem scFromTo : FnScope ["value", "low", "high"] ["value", "low", "high"] (defScope sFromTo) := ⟨rfl, rfl, rfl, by decide +kernel, rfl, by decide +kernel, by decide +kernel⟩
theorem ok_fromTo {f1 : Addr} {fd1 : FuncData} (F : Fun K "is_from_to" "is_from_to" sFromTo f fd) (T : Bl mg) (G1 : FnOk P w K mg base CX0 1 f1 fd1 ["value"] spIsInt) (a1 : At K mg "is_integer" f1 fd1 ["value"]) :
    FnOk P w K mg base CX0 2 f fd ["value", "low", "high"] spFromTo := by
  refine F.ok scFromTo (fun vs H Q E h => ?_) (fun cdv A outer s H vs Q E hr h => ?_)
  · obtain ⟨i, lo, hi, rfl, _⟩ := h
    rfl
  · obtain ⟨i, lo, hi, rfl, h1, h2, k⟩ := h
    refine ⟨_, pss_one (ps_ret (pe_and (pe_call G1 hr (by rfl) a1.m a1.kp a1.b .nil pass0 (pa_cons (pv 0) pa_nil)) (pe_one (pe_chain op_le op_le (pv 1) (pv 0) (pv 2))))), ?_⟩
    refine ⟨_, rfl, i, rfl, _, rfl, iteT ?_⟩
    refine ⟨_, rfl, _, rfl, _, _, rfl, rfl, _, rfl, iteA (decide_eq_true h1) ⟨_, rfl, _, _, rfl, rfl, ?_⟩⟩
    show Q (.bl (decide (i ≤ hi))) H
    rw [decide_eq_true h2]
    exact k
def spRefBound : Sp := fun vs H Q _ => ∃ n : Nat, vs = [.int (n : Int)] ∧ n ≤ 3 ∧ Q .non H
theorem scRefBound : FnScope ["value"] ["value"] (defScope sRefBound) := ⟨rfl, rfl, rfl, by decide +kernel, rfl, by decide +kernel, by decide +kernel⟩
theorem ok_refBound {f1 : Addr} {fd1 : FuncData} {t3 : Tok} (F : Fun K "refuse_bound" "refuse_bound" sRefBound f fd) (h3 : mg "MOST_LIARS" = some (.int 3 t3)) (G1 : FnOk P w K mg base CX0 2 f1 fd1 ["value", "low", "high"] spFromTo) (a1 : At K mg "is_from_to" f1 fd1 ["value", "low", "high"]) :
    FnOk P w K mg base CX0 3 f fd ["value"] spRefBound := by
  refine F.ok scRefBound (fun vs H Q E h => ?_) (fun cdv A outer s H vs Q E hr h => ?_)
  · obtain ⟨n, rfl, _⟩ := h
    rfl
  · obtain ⟨n, rfl, h1, k⟩ := h
    refine ⟨_, pss_one (ps_if (pt_not (pt_val (pe_call G1 hr (by rfl) a1.m a1.kp a1.b .nil pass0 (pa_cons (pv 0) (pa_cons pe_int (pa_cons (pe_glob (v := .int 3) (by rfl) h3 ⟨_, rfl⟩) pa_nil)))))) pss_no pss_nil), ?_⟩
    exact ⟨_, rfl, n, 0, 3, rfl, by omega, by omega, _, rfl, iteB rfl k⟩
/-! ### is_within, less -/
def spWithin (K : PySem.W.Frag) : Sp := fun vs H Q _ => ∃ (a b : Addr) (ys zs : List Str), vs = [.ref a, .ref b] ∧ Sq K H a (ys.map V.str) ∧ Sq K H b (zs.map V.str) ∧ ys.length ≤ 100 ∧ ∀ H', Same H H' → Q (.bl (ys.all fun y => decide (y ∈ zs))) H'
theorem scWithin : FnScope ["lot", "other", "name"] ["lot", "other"] (defScope sWithin) := ⟨rfl, rfl, rfl, by decide +kernel, rfl, by decide +kernel, by decide +kernel⟩
theorem ok_within (F : Fun K "is_within" "is_within" sWithin f fd) (T : Bl mg) : FnOk P w K mg base CX0 1 f fd ["lot", "other"] (spWithin K) := by
  refine F.ok scWithin (fun vs H Q E h => ?_) (fun cdv A outer s H vs Q E hr h => ?_)
  · obtain ⟨a, b, ys, zs, rfl, _⟩ := h
    rfl
  · obtain ⟨a, b, ys, zs, rfl, ha, hb, y100, k⟩ := h
    have nd := scWithin.nd
    refine ⟨_, pss_one (ps_ret (pe_callB (cr_all rfl) (by rfl) T.all boot_all (pa_cons (pe_lc (own := [("name", 2)]) (g := gName 2) (tt := tYes) (te := tOp (rIn K false) (tVar 2) (tVar 1)) rfl nd (pi_seq (pi_list (pv 0)) (pi_tup (pv 0))) (blkOk_by (N := ["lot", "other", "name"]) (sc := defScope sWithin) (by decide +kernel))
        (fun _ _ _ _ _ => pg_name (i := 2) nd rfl (Or.inl rfl)) (fun _ _ _ _ _ => pts_nil) (fun _ _ _ _ _ => pe_cmpR op_in_seq (pv 2) (pv 1) rfl)) pa_nil))), ?_⟩
    refine ⟨a, rfl, seq_lc (Q := fun x H1 => rAll K [x] H1 Q) ys V.str (fun p => some (V.bl (decide (p ∈ zs)))) ha (by omega) ?_ ?_⟩
    · intro j y H' R Rn hy s' k1 k2
      refine ⟨rfl, _, rfl, _, rfl, b, _, rfl, hb.same s', rfl, flat_strs _, ?_⟩
      rw [inV_str]
      exact k1 _ _ rfl (Same.refl _)
    · intro D H' nD s' e
      rw [fm_some] at e
      refine ⟨D, ys.map fun y => decide (y ∈ zs), rfl, SqL.of (by rw [e, List.map_map]; rfl), ?_⟩
      rw [all_in]
      exact k H' s'
def spPLess (K : PySem.W.Frag) : Sp := fun vs H Q _ => ∃ (n s : Addr) (ns ss : List Str), vs = [.ref n, .ref s] ∧ Sq K H n (ns.map V.str) ∧ Sq K H s (ss.map V.str) ∧ ns.length ≤ 100 ∧
  ∀ p H', Same H H' → H p = none → H' p = some (.tup ((ns.filter fun p => !decide (p ∈ ss)).map V.str)) → Q (.ref p) H'
theorem scPLess : FnScope ["lot", "other", "name"] ["lot", "other"] (defScope sPLess) := ⟨rfl, rfl, rfl, by decide +kernel, rfl, by decide +kernel, by decide +kernel⟩
theorem ok_pless (F : Fun K "less" "less" sPLess f fd) (hT : mg "tuple" = none) : FnOk P w K mg base CX0 1 f fd ["lot", "other"] (spPLess K) := by
  refine F.ok scPLess (fun vs H Q E h => ?_) (fun cdv A outer s H vs Q E hr h => ?_)
  · obtain ⟨n, q, ns, ss, rfl, _⟩ := h
    rfl
  · obtain ⟨n, q, ns, ss, rfl, hn, hs, n100, k⟩ := h
    have nd := scPLess.nd
    refine ⟨_, pss_one (ps_ret (pe_tupleOf (by rfl) hT (pe_lc (own := [("name", 2)]) (g := gName 2) (tt := tTest (tOp (rIn K true) (tVar 2) (tVar 1))) rfl nd (pi_seq (pi_list (pv 0)) (pi_tup (pv 0))) (blkOk_by (N := ["lot", "other", "name"]) (sc := defScope sPLess) (by decide +kernel))
        (fun _ _ _ _ _ => pg_name (i := 2) nd rfl (Or.inl rfl)) (fun _ _ _ _ _ => pts_one (pt_cmpR op_notIn_seq (pv 2) (pv 1) rfl)) (fun _ _ _ _ _ => pv 2)))), ?_⟩
    refine ⟨n, rfl, seq_lc (Q := fun x H1 => kTup K x H1 Q) ns V.str (fun p => if p ∈ ss then none else some (V.str p)) hn (by omega) ?_ ?_⟩
    · intro j b H' R Rn hb s' k1 k2
      refine ⟨rfl, _, rfl, _, rfl, q, _, rfl, hs.same s', rfl, flat_strs _, _, rfl, ?_⟩
      rw [inV_str]
      by_cases hz : b ∈ ss
      · refine iteB (by simp [hz]) ?_
        exact k2 _ (by simp [hz]) (Same.refl _)
      · refine iteA (by simp [hz]) ?_
        exact ⟨_, rfl, k1 _ _ (by simp [hz]) (Same.refl _)⟩
    · intro D H' nD s' e
      rw [fm_ifn] at e
      exact .inl ⟨D, _, rfl, SqL.of e, fun T nT => k T _ (s'.trans (same_new nT)) (s'.free nT) upd_same⟩
/-! ### tells_all, brings_back -/
def backN (L : Lore) (ys : List Str) : Bool := decide ((tabC L (spotsIn L ys)).length = 2 ^ L.parts.length)
def spTellsAll (C CS : Addr) : Sp := fun vs H Q _ => ∃ (x p : Addr) (L : Lore) (ts : List V) (ss : List Spot), vs = [.ref x, .ref p] ∧ ShAt H C CS x L ∧ LoreOk L ∧ H p = some (.tup ts) ∧ Paired (RelS H) ts ss ∧ ss.Sublist (spotsOf L.kps) ∧
  ∀ H', Same H H' → Q (.bl (decide ((tabC L ss).length = 2 ^ L.parts.length))) H'
theorem scTellsAll : FnScope ["shelf", "spots"] ["shelf", "spots"] (defScope sTellsAll) := ⟨rfl, rfl, rfl, by decide +kernel, rfl, by decide +kernel, by decide +kernel⟩
theorem ok_tellsAll {C CS fS f3 : Addr} {fd3 : FuncData} (F : Fun K "tells_all" "tells_all" sTellsAll f fd) (T : Bl mg) (SC : ShC K CS fS)
    (G3 : FnOk P w K mg base CX0 2 f3 fd3 ["shelf", "spots"] (spReach C CS)) (a3 : At K mg "reach" f3 fd3 ["shelf", "spots"]) :
    FnOk P w K mg base CX0 3 f fd ["shelf", "spots"] (spTellsAll C CS) := by
  refine F.ok scTellsAll (fun vs H Q E h => ?_) (fun cdv A outer s H vs Q E hr h => ?_)
  · obtain ⟨x, p, L, ts, ss, rfl, _⟩ := h
    rfl
  · obtain ⟨x, p, L, ts, ss, rfl, sh, ok, ep, pr, sub, k⟩ := h
    refine ⟨_, pss_one (ps_ret (pe_cmpR op_eq (pe_callB call_lenD (by rfl) T.len PySem.boot_len (pa_cons (pe_call G3 hr (by rfl) a3.m a3.kp a3.b .nil pass0 (pa_cons (pv 0) (pa_cons (pv 1) pa_nil))) pa_nil))
      (pe_op op_oneShl pe_int (pe_callB call_len_seq (by rfl) T.len PySem.boot_len (pa_cons (pe_fld (pv 0) rfl) pa_nil))) (nomark _))), ?_⟩
    refine ⟨_, rfl, _, rfl, x, p, L, ts, ss, rfl, sh, ok, ep, pr, sub, fun D H3 s3 ⟨kvs, eD, pk⟩ => ?_⟩
    obtain ⟨dx, fs, hx, sf, _⟩ := id (sh.same s3)
    obtain ⟨pa, lp, tpa⟩ := sf.parts
    have p4 := ok.p4
    refine ⟨D, kvs, rfl, eD, _, rfl, x, CS, dx, fs, .ref pa, rfl, hx, SC.cls, SC.parts, lp, pa, _, rfl, .inr tpa.sq, L.parts.length, rfl, by rw [List.length_map], by omega, ?_⟩
    refine ⟨rfl, ?_⟩
    have e : decide (V.int (kvs.length : Int) = V.int (2 ^ L.parts.length)) = decide ((tabC L ss).length = 2 ^ L.parts.length) := by
      have eI : ((2 : Int) ^ L.parts.length) = ((2 ^ L.parts.length : Nat) : Int) := by push_cast; rfl
      rw [Paired.length pk, eI]
      by_cases h : (tabC L ss).length = 2 ^ L.parts.length
      · rw [h]
        simp
      · have : ¬ ((tabC L ss).length : Int) = ((2 ^ L.parts.length : Nat) : Int) := fun z => h (Int.ofNat.inj z)
        rw [decide_eq_false h]
        exact decide_eq_false fun z => this (V.int.inj z)
    rw [e]
    exact k H3 s3
def spBack (C CS : Addr) : Sp := fun vs H Q _ => ∃ (x t : Addr) (L : Lore) (ys : List Str), vs = [.ref x, .ref t] ∧ ShAt H C CS x L ∧ LoreOk L ∧ LotAt H t ys ∧ ys.Sublist (L.kps.map (·.1)) ∧ ∀ H', Same H H' → Q (.bl (backN L ys)) H'
theorem scBack : FnScope ["shelf", "lot"] ["shelf", "lot"] (defScope sBack) := ⟨rfl, rfl, rfl, by decide +kernel, rfl, by decide +kernel, by decide +kernel⟩
theorem ok_back {C CS f1 f2 : Addr} {fd1 fd2 : FuncData} (F : Fun K "brings_back" "brings_back" sBack f fd)
    (G1 : FnOk P w K mg base CX0 3 f1 fd1 ["shelf", "spots"] (spTellsAll C CS)) (a1 : At K mg "tells_all" f1 fd1 ["shelf", "spots"])
    (G2 : FnOk P w K mg base CX0 1 f2 fd2 ["shelf", "lot"] (spSpotsOf C CS)) (a2 : At K mg "spots_of" f2 fd2 ["shelf", "lot"]) :
    FnOk P w K mg base CX0 4 f fd ["shelf", "lot"] (spBack C CS) := by
  refine F.ok scBack (fun vs H Q E h => ?_) (fun cdv A outer s H vs Q E hr h => ?_)
  · obtain ⟨x, t, L, ys, rfl, _⟩ := h
    rfl
  · obtain ⟨x, t, L, ys, rfl, sh, ok, ht, sub, k⟩ := h
    have hr1 : Room 1 _ := hr.mono (by decide)
    refine ⟨_, pss_one (ps_ret (pe_call G1 hr (by rfl) a1.m a1.kp a1.b .nil pass0 (pa_cons (pv 0) (pa_cons (pe_call G2 hr1 (by rfl) a2.m a2.kp a2.b .nil pass0 (pa_cons (pv 0) (pa_cons (pv 1) pa_nil))) pa_nil)))), ?_⟩
    refine ⟨_, rfl, _, rfl, _, rfl, x, t, L, ys, rfl, sh, ok, ht, fun p ts H2 s2 ep pp => ?_⟩
    exact ⟨x, p, L, ts, spotsIn L ys, rfl, sh.same s2, ok, ep, pp, List.filter_sublist, fun H' s' => k H' (s2.trans s')⟩
end
end K6
set_option Elab.async false
set_option linter.all false
set_option maxRecDepth 100000
set_option maxHeartbeats 4000000
set_option pp.maxSteps 1200
set_option pp.deepTerms false
namespace K6
open PySem PySem.Spec PyProof.Rows L2 Lk
/-- how many answers are not those of the record -/
def distN (L : Lore) (As : Ans) (v : Vec) : Nat := (difL L As v).length
/-- the records against which at most so many answers stand -/
def withinV (L : Lore) (As : Ans) (n : Nat) : List Vec := (vL L.parts.length).filter fun v => decide (distN L As v ≤ n)
def IsMin (L : Lore) (As : Ans) (m : Nat) : Prop := (∃ v, v.length = L.parts.length ∧ distN L As v = m) ∧ ∀ v, v.length = L.parts.length → m ≤ distN L As v
theorem distN_le (L : Lore) (As : Ans) (v : Vec) : distN L As v ≤ As.length := List.length_filter_le _ _
section
variable {P : Program} {w : World} {K : PySem.W.Frag} {mg : Str → Option Value} {base : Heap} {f : Addr} {fd : FuncData}
def spRecsWithin (C CS : Addr) : Sp := fun vs H Q _ => ∃ (x r : Addr) (L : Lore) (As : Ans) (n : Nat), vs = [.ref x, .ref r, .int (n : Int)] ∧ ShAt H C CS x L ∧ LoreOk L ∧ AnsAt H r As ∧ AnsOk L As ∧
  ∀ p H', Same H H' → H p = none → H' p = some (.tup (((withinV L As n).map stv).map V.str)) → Q (.ref p) H'
def spBelieved (C CS : Addr) : Sp := fun vs H Q _ => ∃ (x r : Addr) (L : Lore) (As : Ans) (n : Nat), vs = [.ref x, .ref r, .int (n : Int)] ∧ ShAt H C CS x L ∧ LoreOk L ∧ AnsAt H r As ∧ AnsOk L As ∧ n ≤ 3 ∧
  ∀ p H', Same H H' → H p = none → H' p = some (.tup (((withinV L As n).map stv).map V.str)) → Q (.ref p) H'
def spNearest (C CS : Addr) : Sp := fun vs H Q _ => ∃ (x r : Addr) (L : Lore) (As : Ans), vs = [.ref x, .ref r] ∧ ShAt H C CS x L ∧ LoreOk L ∧ AnsAt H r As ∧ AnsOk L As ∧
  ∀ q p m H', Same H H' → H' q = some (.tup [.int ((m : Nat) : Int), .ref p]) → H' p = some (.tup (((withinV L As m).map stv).map V.str)) → IsMin L As m → Q (.ref q) H'
end
end K6
set_option Elab.async false
set_option linter.all false
set_option maxRecDepth 100000
set_option maxHeartbeats 4000000
set_option pp.maxSteps 1200
set_option pp.deepTerms false
namespace K6
open PySem PySem.Spec PyProof.Rows L2 Lk
abbrev sDoubted : Stmt := top 60
abbrev sOver : Stmt := top 57
theorem lots_has {zs ys : List Str} {rws : List (List Str)} (h : LotsOk zs rws) (nd : zs.Nodup) (s : ys.Sublist zs) : ys ∈ rws := by
  obtain ⟨ord, rfl, p, _⟩ := h
  obtain ⟨c, hc, e⟩ := namesAt_has nd s
  refine List.mem_map.mpr ⟨rowC zs.length c, p.mem_iff.mpr (List.mem_map.mpr ⟨c, List.mem_range.mpr hc, rfl⟩), e⟩
theorem lots_sub {zs ys : List Str} {rws : List (List Str)} (h : LotsOk zs rws) (m : ys ∈ rws) : ys.Sublist zs := by
  obtain ⟨ord, rfl, p, _⟩ := h
  obtain ⟨q, hq, rfl⟩ := List.mem_map.mp m
  obtain ⟨c, _, rfl⟩ := List.mem_map.mp (p.mem_iff.mp hq)
  exact namesAt_sub _ _ _ rfl
def lessL (ys row : List Str) : List Str := ys.filter fun y => !decide (y ∈ row)
/-- whether a lot of so many keepers leaves what does not bring back -/
def dubB (L : Lore) (ys : List Str) (m : Nat) (row : List Str) : Bool := decide (row.length = m) && ((row.all fun y => decide (y ∈ ys)) && !backN L (lessL ys row))
theorem mul_zero {n : Nat} (h1 : 1 ≤ n) (h4 : n ≤ 4) : MulOk ("0" : Str) (n : Int) ∧ Txt.mul ("0" : Str) (n : Int) = stv (List.replicate n false) := by
  have : n = 1 ∨ n = 2 ∨ n = 3 ∨ n = 4 := by omega
  rcases this with rfl | rfl | rfl | rfl
  · exact ⟨⟨by decide, fun _ h => by revert h; decide, fun _ h => by revert h; decide⟩, by decide +kernel⟩
  · exact ⟨⟨by decide, fun _ _ => by decide +kernel, fun _ _ => by decide +kernel⟩, by decide +kernel⟩
  · exact ⟨⟨by decide, fun _ _ => by decide +kernel, fun _ _ => by decide +kernel⟩, by decide +kernel⟩
  · exact ⟨⟨by decide, fun _ _ => by decide +kernel, fun _ _ => by decide +kernel⟩, by decide +kernel⟩
theorem op_mulS {X : Cx} : OpR X (binaryOp .Mult) (fun x y H Q => ∃ (z : Str) (n : Int), x = .str z ∧ y = .int n ∧ MulOk z n ∧ Q (.str (Txt.mul z n)) H) := by
  intro pins s σ H x y v u Q I rx ry h
  obtain ⟨z, n, rfl, rfl, hz, q⟩ := h
  obtain ⟨t, rfl⟩ := rx
  obtain ⟨t', rfl⟩ := ry
  exact SB.mul hz fun t' tk => ⟨.str (Txt.mul z n), H, I.tok _, ⟨_, rfl⟩, q⟩
section
variable {P : Program} {w : World} {K : PySem.W.Frag} {mg : Str → Option Value} {base : Heap} {f : Addr} {fd : FuncData}
def spDoubted (C CS : Addr) : Sp := fun vs H Q _ => ∃ (x t : Addr) (L : Lore) (ys : List Str) (n : Nat), vs = [.ref x, .ref t, .int (n : Int)] ∧ ShAt H C CS x L ∧ LoreOk L ∧ LotE H t ys ∧ ys.Sublist (L.kps.map (·.1)) ∧ n ≤ 3 ∧
  (∀ H', Same H H' → (∀ row, row.Sublist (L.kps.map (·.1)) → dubB L ys (min (2 * n) ys.length) row = false) → Q .non H') ∧
  (∀ q row H', Same H H' → LotAt H' q row → row.Sublist (L.kps.map (·.1)) → dubB L ys (min (2 * n) ys.length) row = true → Q (.ref q) H')
theorem scDoubted : FnScope ["shelf", "lot", "bound", "many", "row"] ["shelf", "lot", "bound"] (defScope sDoubted) := ⟨rfl, rfl, rfl, by decide +kernel, rfl, by decide +kernel, by decide +kernel⟩
theorem ok_doubted {C CS fC fS f1 f2 f3 f4 : Addr} {fd1 fd2 fd3 fd4 : FuncData} (F : Fun K "first_doubted" "first_doubted" sDoubted f fd) (T : Bl mg) (CC : CircC K C fC) (SC : ShC K CS fS)
    (G1 : FnOk P w K mg base CX0 3 f1 fd1 ["circle"] (spLots C)) (a1 : At K mg "lots" f1 fd1 ["circle"])
    (G2 : FnOk P w K mg base CX0 1 f2 fd2 ["lot", "other"] (spWithin K)) (a2 : At K mg "is_within" f2 fd2 ["lot", "other"])
    (G3 : FnOk P w K mg base CX0 4 f3 fd3 ["shelf", "lot"] (spBack C CS)) (a3 : At K mg "brings_back" f3 fd3 ["shelf", "lot"])
    (G4 : FnOk P w K mg base CX0 1 f4 fd4 ["lot", "other"] (spPLess K)) (a4 : At K mg "less" f4 fd4 ["lot", "other"]) :
    FnOk P w K mg base CX0 5 f fd ["shelf", "lot", "bound"] (spDoubted C CS) := by
  refine F.ok scDoubted (fun vs H Q E h => ?_) (fun cdv A outer s H vs Q E hr h => ?_)
  · obtain ⟨x, t, L, ys, n, rfl, _⟩ := h
    rfl
  · obtain ⟨x, t, L, ys, n, rfl, sh, ok, ht, sub, n3, k1, k2⟩ := h
    have nd := scDoubted.nd
    have hr1 : Room 1 _ := hr.mono (by decide)
    have hr3 : Room 3 _ := hr.mono (by decide)
    refine ⟨_, pss_cons (ps_set (i := 3) nd rfl (.inl rfl) (pe_callB (call_min2 rfl) (by rfl) T.min boot_min (pa_cons (pe_op op_mul pe_int (pv 2)) (pa_cons (pe_callB call_len_seq (by rfl) T.len PySem.boot_len (pa_cons (pv 1) pa_nil)) pa_nil))))
      (pss_cons (ps_for PassesOwn.never rfl (pi_tup (pe_call G1 hr3 (by rfl) a1.m a1.kp a1.b .nil pass0 (pa_cons (pe_fld (pv 0) rfl) pa_nil))) (pg_name (i := 4) nd rfl (.inl rfl))
          (pss_one (ps_if (PW.pt (pw_and (pt_cmpR op_eq (pe_callB call_len_seq (by rfl) T.len PySem.boot_len (pa_cons (pv 4) pa_nil)) (pv 3) (nomark _)) (pw_and (pt_val (pe_call G2 hr1 (by rfl) a2.m a2.kp a2.b .nil pass0 (pa_cons (pv 4) (pa_cons (pv 1) pa_nil))))
            (pw_and1 (pt_not (pt_val (pe_call G3 hr (by rfl) a3.m a3.kp a3.b .nil pass0 (pa_cons (pv 0) (pa_cons (pe_call G4 hr1 (by rfl) a4.m a4.kp a4.b .nil pass0 (pa_cons (pv 1) (pa_cons (pv 4) pa_nil))) pa_nil))))))))) (pss_one (ps_ret (pv 4))) pss_nil)))
        (pss_one (ps_ret pe_non))), ?_⟩
    obtain ⟨dx, fs, hx, sf, _⟩ := id sh
    obtain ⟨c, lc, ca⟩ := sf.circle
    have k6 : (L.kps.map (·.1)).length ≤ 6 := by rw [List.length_map]; exact ok.k6
    have y6 : ys.length ≤ 6 := Nat.le_trans sub.length_le k6
    refine ⟨_, rfl, _, _, rfl, rfl, .inl ⟨by decide, by decide⟩, _, rfl, t, _, rfl, .inr ht.sq, _, _, rfl, ?_⟩
    have em : (if (((ys.map V.str).length : Nat) : Int) < 2 * (n : Int) then (((ys.map V.str).length : Nat) : Int) else 2 * (n : Int)) = ((min (2 * n) ys.length : Nat) : Int) := by
      rw [List.length_map]
      split <;> omega
    rw [em]
    obtain ⟨m, hm⟩ : ∃ m, m = min (2 * n) ys.length := ⟨_, rfl⟩
    rw [← hm] at k1 k2 ⊢
    refine ⟨_, rfl, x, CS, dx, fs, .ref c, rfl, hx, SC.cls, SC.circle, lc, c, _, rfl, ca, k6, fun r ts rws H1 s1 er pr lo => ?_⟩
    obtain ⟨zs, z1, z2, z3⟩ := paired_zip pr
    refine ⟨r, rfl, ⟨_, SqT.of er⟩, for_tup (xs := ts) (fun i σ H' => ∃ u : Option V, σ = [some (.ref x), some (.ref t), some (.int (n : Int)), some (.int (m : Int)), u] ∧ Same H1 H' ∧ ∀ row ∈ rws.take i, dubB L ys m row = false) ?_ ?_ ?_ ?_⟩
    · exact ⟨none, rfl, Same.refl _, fun row h => by cases h⟩
    · rintro i σ H' _ ⟨u, rfl, ss, _⟩
      exact sqT_same ss (SqT.of er)
    · rintro i v σ H' hv ⟨u, rfl, ss, hall⟩
      obtain ⟨z, hz⟩ : ∃ z, zs[i]? = some z := by
        rw [← z1, List.getElem?_map] at hv
        cases e : zs[i]? with
        | none => rw [e] at hv; cases hv
        | some z => exact ⟨z, rfl⟩
      obtain rfl : z.1 = v := by rw [← z1, List.getElem?_map, hz] at hv; exact Option.some.inj hv
      have hrow : rws[i]? = some z.2 := by rw [← z2, List.getElem?_map, hz]; rfl
      obtain ⟨q, eq, hq⟩ := z3 z (List.mem_of_getElem? hz)
      obtain ⟨zv, row⟩ := z
      dsimp only at eq hq hrow
      subst eq
      have rs := lots_sub lo (List.mem_of_getElem? hrow)
      have r6 : row.length ≤ 6 := Nat.le_trans rs.length_le k6
      have sH := s1.trans ss
      have hq' := ss _ _ hq
      have next : dubB L ys m row = false → ∀ r' ∈ rws.take (i + 1), dubB L ys m r' = false := fun hd r' hr' => by
        rw [List.take_add_one, hrow] at hr'
        rcases List.mem_append.mp hr' with h | h
        · exact hall r' h
        · rw [List.mem_singleton.mp h]
          exact hd
      refine ⟨_, rfl, q, _, rfl, .inr (SqT.of hq'), _, rfl, rfl, _, rfl, ?_⟩
      have e1 : decide (V.int (((row.map V.str).length : Nat) : Int) = V.int (m : Int)) = decide (row.length = m) := by
        rw [List.length_map]
        by_cases h : row.length = m
        · rw [h]
          simp
        · have : ¬ ((row.length : Nat) : Int) = (m : Int) := fun z => h (Int.ofNat.inj z)
          rw [decide_eq_false h]
          exact decide_eq_false fun z => this (V.int.inj z)
      rw [e1]
      by_cases h1 : row.length = m
      · rw [decide_eq_true h1]
        refine iteT ⟨_, rfl, _, rfl, q, t, row, ys, rfl, .inr (SqT.of hq'), .inr ((ht.same sH).sq), by omega, fun H2 s2 => ⟨_, rfl, ?_⟩⟩
        cases h2 : row.all fun y => decide (y ∈ ys) with
        | false =>
          refine iteB rfl (iteB rfl ⟨_, rfl, ss.trans s2, next ?_⟩)
          unfold dubB
          rw [h2, Bool.false_and, Bool.and_false]
        | true =>
          refine iteT ⟨_, rfl, _, rfl, _, rfl, t, q, ys, row, rfl, .inr ((ht.same (sH.trans s2)).sq), .inr (SqT.of (s2 _ _ hq')), by omega, fun p H3 s3 np ep => ?_⟩
          have s13 := (sH.trans s2).trans s3
          refine ⟨x, p, L, lessL ys row, rfl, sh.same s13, ok, ep, List.filter_sublist.trans sub, fun H4 s4 => ⟨_, rfl, ?_⟩⟩
          cases h3 : backN L (lessL ys row) with
          | true =>
            refine iteB rfl ⟨_, rfl, ((ss.trans s2).trans s3).trans s4, next ?_⟩
            unfold dubB
            rw [h3, Bool.not_true, Bool.and_false, Bool.and_false]
          | false =>
            refine iteT ⟨_, rfl, k2 q row H4 (s13.trans s4) (((s2.trans s3).trans s4) _ _ hq') rs ?_⟩
            unfold dubB
            rw [decide_eq_true h1, h2, h3]
            rfl
      · rw [decide_eq_false h1]
        refine iteB rfl (iteB rfl ⟨_, rfl, ss, next ?_⟩)
        unfold dubB
        rw [decide_eq_false h1, Bool.false_and]
    · rintro σ H' ⟨u, rfl, ss, hall⟩
      refine k1 H' (s1.trans ss) fun row rs => ?_
      refine hall row ?_
      have : rws.length = ts.length := by rw [← z1, ← z2, List.length_map, List.length_map]
      rw [← this, List.take_length]
      exact lots_has lo ok.kn rs
end
end K6
set_option Elab.async false
set_option linter.all false
set_option maxRecDepth 100000
set_option maxHeartbeats 4000000
namespace K6
open PySem PySem.Spec PyProof.Rows L2 Lk
/-! ### what is asked of the answers -/
theorem names_eq (As : Ans) : As.map (·.1.1) = (As.map (·.1)).map (·.1) := by rw [List.map_map]; rfl
theorem rowsA_fst {L : Lore} (ok : LoreOk L) {As : Ans} (ao : AnsOk L As) : (rowsA L As).map (·.1) = rowsC L (spotsIn L (As.map (·.1.1))) := by
  unfold rowsC
  rw [names_eq, spotsIn_sub ok ao.sub, ← valued_spots ao.len, List.map_map, List.map_map]
  rfl
theorem fit_len {L : Lore} (ok : LoreOk L) {As : Ans} (ao : AnsOk L As) (h : fitV L As ≠ []) : (fitV L As).length = (kerL L.parts.length (rowsC L (spotsIn L (As.map (·.1.1))))).length := by
  have p := fit_perm ok ao
  rw [p.length_eq, ← rowsA_fst ok ao]
  refine fit_ker fun e => h ?_
  rw [e] at p
  exact List.Perm.eq_nil p
theorem tabC_ok (L : Lore) (ss : List Spot) : TbOk L.parts.length (rowsC L ss) (tabC L ss) := table_ok rowsC_len
/-- what brings back leaves at most one record -/
theorem back_one {L : Lore} (ok : LoreOk L) {As : Ans} (ao : AnsOk L As) (h : backB L (As.map (·.1)) = true) : (fitV L As).length ≤ 1 := by
  by_cases e : fitV L As = []
  · rw [e]
    exact Nat.zero_le _
  · rw [fit_len ok ao e]
    refine units_ker (tabC_ok L _) fun i hi => ?_
    have := List.all_eq_true.mp h i (List.mem_range.mpr hi)
    rw [← names_eq] at this
    exact of_decide_eq_true this
/-- how many are told apart -/
theorem unlike_eq {L : Lore} (ok : LoreOk L) {As : Ans} (ao : AnsOk L As) (h : fitV L As ≠ []) : ((2 ^ L.parts.length : Nat) : Int) / ((fitV L As).length : Int) = ((tabC L (spotsIn L (As.map (·.1.1)))).length : Int) := by
  have r := (tabC_ok L (spotsIn L (As.map (·.1.1)))).rank
  rw [← fit_len ok ao h] at r
  have l0 : 0 < (fitV L As).length := List.length_pos_iff.mpr h
  rw [← r]
  have : (((tabC L (spotsIn L (As.map (·.1.1)))).length * (fitV L As).length : Nat) : Int) = ((tabC L (spotsIn L (As.map (·.1.1)))).length : Int) * ((fitV L As).length : Int) := by push_cast; rfl
  rw [this]
  exact Int.mul_ediv_cancel _ (by omega)
/-- if the keepers bring nothing back, a record is lost -/
theorem lost_has {L : Lore} (ok : LoreOk L) {ks : List KP} (sub : ks.Sublist L.kps) (h : backB L ks = false) : ∃ v : Vec, v.length = L.parts.length ∧ lostB L ks v = true := by
  obtain ⟨i, hi, hu⟩ : ∃ i, i < L.parts.length ∧ unitV L.parts.length i ∉ (tabC L (spotsIn L (ks.map (·.1)))).map (·.1) := by
    unfold backB at h
    rw [List.all_eq_false] at h
    obtain ⟨i, hi, hn⟩ := h
    exact ⟨i, List.mem_range.mp hi, by simpa using hn⟩
  obtain ⟨v, vl, v1, v0⟩ := unit_lost (tabC_ok L _) hu
  refine ⟨v, vl, ?_⟩
  unfold lostB
  rw [Bool.and_eq_true]
  refine ⟨decide_eq_true ?_, ?_⟩
  · cases e : v[i]? with
    | none => rw [e] at v1; cases v1
    | some b =>
      rw [e] at v1
      have : b = true := v1
      subst this
      exact List.mem_of_getElem? e
  · rw [Bool.not_eq_true', decide_eq_false_iff_not]
    intro hm
    obtain ⟨k, hk, hb⟩ := List.mem_flatMap.mp hm
    obtain ⟨m, hmm⟩ := List.mem_iff_getElem?.mp hb
    have km := sub.subset hk
    unfold ansV at hmm
    rw [List.getElem?_map] at hmm
    cases e : k.2[m]? with
    | none => rw [e] at hmm; cases hmm
    | some p =>
      rw [e] at hmm
      have d1 : dot (vecP L.parts p) v = true := Option.some.inj hmm
      have ml := (List.getElem?_eq_some_iff.mp e).1
      have sm : ((k.1, m) : Spot) ∈ spotsIn L (ks.map (·.1)) := by
        rw [spotsIn_sub ok sub]
        exact List.mem_flatMap.mpr ⟨k, hk, List.mem_map.mpr ⟨m, List.mem_range.mpr ml, rfl⟩⟩
      have := v0 ((k.1, m), codeS L (k.1, m)) (List.mem_map.mpr ⟨_, sm, rfl⟩)
      have c : codeS L (k.1, m) = vecP L.parts p := by
        unfold codeS
        rw [piece_at_of ok km e]
      rw [show (((k.1, m), codeS L (k.1, m)) : RowS).2 = codeS L (k.1, m) from rfl, c, d1] at this
      cases this
theorem dif_nil (L : Lore) (As : Ans) (v : Vec) : decide (difL L As v = []) = fitB L As v := by
  unfold difL fitB
  rw [Bool.eq_iff_iff, decide_eq_true_iff, List.filter_eq_nil_iff, List.all_eq_true]
  constructor
  · intro h a ha
    have := h a ha
    simpa using this
  · intro h a ha
    have := h a ha
    simp at this
    simp [this]
/-! ### wider answers -/
def getA (Es : Ans) (k : KP) : Option Vec := (Es.find? fun e => decide (e.1.1 = k.1)).map (·.2)
def wideA (L : Lore) (Es : Ans) : Ans := L.kps.filterMap fun k => (getA Es k).map fun w => (k, w)
theorem wide_fst (g : KP → Option Vec) : ∀ ks : List KP, ((ks.filterMap fun k => (g k).map fun w => (k, w)).map (·.1)) = ks.filter fun k => (g k).isSome
  | [] => rfl
  | k :: ks => by
    have ih := wide_fst g ks
    cases e : g k with
    | none => rw [List.filterMap_cons, e, List.filter_cons_of_neg (by simp [e])]; exact ih
    | some w =>
      rw [List.filterMap_cons, e, List.filter_cons_of_pos (by simp [e])]
      show k :: _ = k :: _
      rw [ih]
structure EsOk (L : Lore) (Es : Ans) : Prop where
  mem : ∀ e ∈ Es, e.1 ∈ L.kps ∧ e.2.length = e.1.2.length
  nd : (Es.map (·.1.1)).Nodup
theorem getA_some {L : Lore} (ok : LoreOk L) {Es : Ans} (eo : EsOk L Es) {k : KP} (hk : k ∈ L.kps) {w : Vec} (h : getA Es k = some w) : (k, w) ∈ Es := by
  unfold getA at h
  cases e : Es.find? (fun e => decide (e.1.1 = k.1)) with
  | none => rw [e] at h; cases h
  | some x =>
    rw [e] at h
    have hw : x.2 = w := Option.some.inj h
    have hx := List.mem_of_find?_eq_some e
    have hn : x.1.1 = k.1 := by
      have := List.find?_some e
      simpa using this
    have hk2 : x.1 = k := nodup_fst ok.kn (eo.mem x hx).1 hk hn
    rw [← hw, ← hk2]
    exact hx
theorem wide_ok {L : Lore} (ok : LoreOk L) {Es : Ans} (eo : EsOk L Es) : AnsOk L (wideA L Es) := by
  refine ⟨?_, fun a ha => ?_⟩
  · unfold wideA
    rw [wide_fst]
    exact List.filter_sublist
  · obtain ⟨k, hk, h⟩ := List.mem_filterMap.mp ha
    cases e : getA Es k with
    | none => rw [e] at h; cases h
    | some w =>
      rw [e] at h
      have : (k, w) = a := Option.some.inj h
      rw [← this]
      exact (eo.mem _ (getA_some ok eo hk e)).2
theorem find_nd {Es : Ans} : (Es.map (·.1.1)).Nodup → ∀ e ∈ Es, (Es.find? fun x => decide (x.1.1 = e.1.1)) = some e := by
  induction Es with
  | nil => intro _ e h; cases h
  | cons x Es ih =>
    intro nd e h
    have n2 := List.nodup_cons.mp nd
    rcases List.mem_cons.mp h with rfl | h
    · rw [List.find?_cons_of_pos (by simp)]
    · have : x.1.1 ≠ e.1.1 := fun z => n2.1 (List.mem_map.mpr ⟨e, h, z.symm⟩)
      rw [List.find?_cons_of_neg (by simpa using this)]
      exact ih n2.2 e h
theorem wide_has {L : Lore} {Es : Ans} (eo : EsOk L Es) : ∀ e ∈ Es, e ∈ wideA L Es := fun e he => by
  refine List.mem_filterMap.mpr ⟨e.1, (eo.mem e he).1, ?_⟩
  unfold getA
  rw [find_nd eo.nd e he]
  rfl
theorem wide_fewer {L : Lore} {Es As : Ans} (eo : EsOk L Es) (h : ∀ a ∈ As, a ∈ Es) : (fitV L (wideA L Es)).length ≤ (fitV L As).length := by
  have imp : ∀ v, fitB L (wideA L Es) v = true → fitB L As v = true := fun v hv => by
    unfold fitB at hv ⊢
    rw [List.all_eq_true] at hv ⊢
    exact fun a ha => hv a (wide_has eo a (h a ha))
  unfold fitV
  have : ((vL L.parts.length).filter (fitB L (wideA L Es))) = ((vL L.parts.length).filter (fitB L As)).filter (fitB L (wideA L Es)) := by
    rw [List.filter_filter]
    refine List.filter_congr fun v _ => ?_
    cases e : fitB L (wideA L Es) v with
    | false => simp
    | true => rw [imp v e]; rfl
  rw [this]
  exact List.length_filter_le _ _
/-- the dict of all answers -/
theorem more_val {Es : Ans} (nd : (Es.map (·.1.1)).Nodup) (k : KP) : valV (mergeK [] (Es.map fun a => ((.inr a.1.1 : L2.Key), V.str (stv a.2)))) (.inr k.1) = (getA Es k).map fun w => V.str (stv w) := by
  have nk : ((Es.map fun a => ((.inr a.1.1 : L2.Key), V.str (stv a.2))).map (·.1)).Nodup := by
    rw [List.map_map, List.nodup_iff_pairwise_ne, List.pairwise_map]
    rw [List.nodup_iff_pairwise_ne, List.pairwise_map] at nd
    exact nd.imp fun h e => h (Sum.inr.inj e)
  unfold getA
  cases e : Es.find? (fun e => decide (e.1.1 = k.1)) with
  | none =>
    have no : (.inr k.1 : L2.Key) ∉ (Es.map fun a => ((.inr a.1.1 : L2.Key), V.str (stv a.2))).map (·.1) := fun h => by
      rw [List.map_map] at h
      obtain ⟨x, hx, h2⟩ := List.mem_map.mp h
      have := List.find?_eq_none.mp e x hx
      exact this (by simpa using Sum.inr.inj h2)
    rw [merge_not no]
    rfl
  | some x =>
    have hx := List.mem_of_find?_eq_some e
    have hn : x.1.1 = k.1 := by
      have := List.find?_some e
      simpa using this
    rw [← hn]
    exact merge_at nk (List.mem_map.mpr ⟨x, hx, rfl⟩)
end K6
set_option Elab.async false
set_option linter.all false
set_option maxRecDepth 100000
set_option maxHeartbeats 4000000
set_option pp.maxSteps 1200
set_option pp.deepTerms false
namespace K6
open PySem PySem.Spec PyProof.Rows L2 Lk
theorem backN_of {L : Lore} {ks : List KP} (h : backB L ks = true) : backN L (ks.map (·.1)) = true := by
  have r := (tabC_ok L (spotsIn L (ks.map (·.1)))).rank
  have u : (kerL L.parts.length (rowsC L (spotsIn L (ks.map (·.1))))).length ≤ 1 := units_ker (tabC_ok L _) fun i hi => by
    have := List.all_eq_true.mp h i (List.mem_range.mpr hi)
    exact of_decide_eq_true this
  refine decide_eq_true ?_
  have p : 0 < 2 ^ L.parts.length := Nat.pow_pos (by decide)
  rcases Nat.lt_or_ge 0 (kerL L.parts.length (rowsC L (spotsIn L (ks.map (·.1))))).length with h1 | h1
  · have : (kerL L.parts.length (rowsC L (spotsIn L (ks.map (·.1))))).length = 1 := by omega
    rw [this, Nat.mul_one] at r
    exact r
  · have : (kerL L.parts.length (rowsC L (spotsIn L (ks.map (·.1))))).length = 0 := by omega
    rw [this, Nat.mul_zero] at r
    omega
theorem back_lost {L : Lore} (ok : LoreOk L) {ks : List KP} (sub : ks.Sublist L.kps) (h : backN L (ks.map (·.1)) = false) : ∃ v : Vec, v.length = L.parts.length ∧ lostB L ks v = true := by
  cases e : backB L ks with
  | false => exact lost_has ok sub e
  | true => rw [backN_of e] at h; cases h
/-- what brings back leaves at most one record -/
theorem backN_one {L : Lore} (ok : LoreOk L) {As : Ans} (ao : AnsOk L As) (h : backN L (As.map (·.1.1)) = true) : (fitV L As).length ≤ 1 := by
  by_cases e : fitV L As = []
  · rw [e]
    exact Nat.zero_le _
  · rw [fit_len ok ao e]
    have r := (tabC_ok L (spotsIn L (As.map (·.1.1)))).rank
    have t := of_decide_eq_true h
    rw [t] at r
    have p : 0 < 2 ^ L.parts.length := Nat.pow_pos (by decide)
    have : 2 ^ L.parts.length * (kerL L.parts.length (rowsC L (spotsIn L (As.map (·.1.1))))).length = 2 ^ L.parts.length * 1 := by rw [Nat.mul_one]; exact r
    exact Nat.le_of_eq (Nat.eq_of_mul_eq_mul_left p this)
theorem kps_of {ks0 : List KP} {ys : List Str} (h : ys.Sublist (ks0.map (·.1))) : ∃ ks : List KP, ks.Sublist ks0 ∧ ks.map (·.1) = ys := by
  obtain ⟨ks, h1, h2⟩ := List.sublist_map_iff.mp h
  exact ⟨ks, h1, h2.symm⟩
def OverAt (H : Hp) (q : Addr) (L : Lore) (ys : List Str) (n : Nat) : Prop :=
  (H q = some (.tup [.str "sure"]) ∧ ∀ row, row.Sublist (L.kps.map (·.1)) → dubB L ys (min (2 * n) ys.length) row = false) ∨
  ∃ (v : Vec) (d : Addr) (row : List Str) (ks : List KP), H q = some (.tup [.str "open", .str (stv (zv L.parts.length)), .str (stv v), .ref d]) ∧ H d = some (.tup (row.map V.str)) ∧ v.length = L.parts.length ∧ row.Sublist (L.kps.map (·.1)) ∧ dubB L ys (min (2 * n) ys.length) row = true ∧ ks.Sublist L.kps ∧ ks.map (·.1) = lessL ys row ∧ lostB L ks v = true
section
variable {P : Program} {w : World} {K : PySem.W.Frag} {mg : Str → Option Value} {base : Heap} {f : Addr} {fd : FuncData}
def spOver (C CS : Addr) : Sp := fun vs H Q _ => ∃ (x t : Addr) (L : Lore) (ys : List Str) (n : Nat), vs = [.ref x, .ref t, .int (n : Int)] ∧ ShAt H C CS x L ∧ LoreOk L ∧ LotE H t ys ∧ ys.Sublist (L.kps.map (·.1)) ∧ n ≤ 3 ∧
  ∀ q H', Same H H' → OverAt H' q L ys n → Q (.ref q) H'
theorem scOver : FnScope ["shelf", "lot", "bound", "doubted"] ["shelf", "lot", "bound"] (defScope sOver) := ⟨rfl, rfl, rfl, by decide +kernel, rfl, by decide +kernel, by decide +kernel⟩
theorem ok_over {C CS fC fS f1 f2 f3 f4 f5 : Addr} {fd1 fd2 fd3 fd4 fd5 : FuncData} (F : Fun K "overruled" "overruled" sOver f fd) (T : Bl mg) (CC : CircC K C fC) (SC : ShC K CS fS)
    (G1 : FnOk P w K mg base CX0 2 f1 fd1 ["circle", "value"] (spRefLot C)) (a1 : At K mg "refuse_lot" f1 fd1 ["circle", "value"])
    (G2 : FnOk P w K mg base CX0 3 f2 fd2 ["value"] spRefBound) (a2 : At K mg "refuse_bound" f2 fd2 ["value"])
    (G3 : FnOk P w K mg base CX0 5 f3 fd3 ["shelf", "lot", "bound"] (spDoubted C CS)) (a3 : At K mg "first_doubted" f3 fd3 ["shelf", "lot", "bound"])
    (G4 : FnOk P w K mg base CX0 7 f4 fd4 ["shelf", "lot"] (spLostRec C CS)) (a4 : At K mg "lost_record" f4 fd4 ["shelf", "lot"])
    (G5 : FnOk P w K mg base CX0 1 f5 fd5 ["lot", "other"] (spPLess K)) (a5 : At K mg "less" f5 fd5 ["lot", "other"]) :
    FnOk P w K mg base CX0 8 f fd ["shelf", "lot", "bound"] (spOver C CS) := by
  refine F.ok scOver (fun vs H Q E h => ?_) (fun cdv A outer s H vs Q E hr h => ?_)
  · obtain ⟨x, t, L, ys, n, rfl, _⟩ := h
    rfl
  · obtain ⟨x, t, L, ys, n, rfl, sh, ok, ht, sub, n3, k⟩ := h
    have nd := scOver.nd
    have hr1 : Room 1 _ := hr.mono (by decide)
    have hr2 : Room 2 _ := hr.mono (by decide)
    have hr3 : Room 3 _ := hr.mono (by decide)
    have hr5 : Room 5 _ := hr.mono (by decide)
    refine ⟨_, pss_cons (ps_expr (pe_call G1 hr2 (by rfl) a1.m a1.kp a1.b .nil pass0 (pa_cons (pe_fld (pv 0) rfl) (pa_cons (pv 1) pa_nil)))) (pss_cons (ps_expr (pe_call G2 hr3 (by rfl) a2.m a2.kp a2.b .nil pass0 (pa_cons (pv 2) pa_nil)))
      (pss_cons (ps_set (i := 3) nd rfl (.inl rfl) (pe_call G3 hr5 (by rfl) a3.m a3.kp a3.b .nil pass0 (pa_cons (pv 0) (pa_cons (pv 1) (pa_cons (pv 2) pa_nil)))))
      (pss_cons (ps_if (pt_cmp (pc_isN (pv 3))) (pss_one (ps_ret (pe_tup (pa_cons pe_str pa_nil)))) pss_nil)
      (pss_one (ps_ret (pe_tup (pa_cons pe_str (pa_cons (pe_op op_mulS pe_str (pe_callB call_len_seq (by rfl) T.len PySem.boot_len (pa_cons (pe_fld (pv 0) rfl) pa_nil)))
        (pa_cons (pe_call G4 hr (by rfl) a4.m a4.kp a4.b .nil pass0 (pa_cons (pv 0) (pa_cons (pe_call G5 hr1 (by rfl) a5.m a5.kp a5.b .nil pass0 (pa_cons (pv 1) (pa_cons (pv 3) pa_nil))) pa_nil))) (pa_cons (pv 3) pa_nil)))))))))), ?_⟩
    obtain ⟨dx, fs, hx, sf, _⟩ := id sh
    obtain ⟨c, lc, ca⟩ := sf.circle
    have y6 : ys.length ≤ 6 := Nat.le_trans sub.length_le (by rw [List.length_map]; exact ok.k6)
    refine ⟨_, rfl, x, CS, dx, fs, .ref c, rfl, hx, SC.cls, SC.circle, lc, _, rfl, c, t, _, ys, rfl, ca, ht, sub, nmOk ok, fun H1 s1 => ?_⟩
    refine ⟨_, rfl, n, rfl, n3, ?_⟩
    refine ⟨_, rfl, _, rfl, _, rfl, x, t, L, ys, n, rfl, sh.same s1, ok, ht.same s1, sub, n3, fun H2 s2 hall => ?_, fun q row H2 s2 hq rs hd => ?_⟩
    · refine ⟨_, rfl, _, rfl, iteT ⟨few_ok rfl, fun p np => ?_⟩⟩
      exact k p _ ((s1.trans s2).trans (same_new np)) (.inl ⟨upd_same, hall⟩)
    · refine ⟨_, rfl, _, rfl, iteB (by simp) ?_⟩
      have s12 := s1.trans s2
      obtain ⟨dx2, fs2, hx2, sf2, _⟩ := id (sh.same s12)
      obtain ⟨pa, lp, tpa⟩ := sf2.parts
      obtain ⟨m1, m2⟩ := mul_zero ok.p0 ok.p4
      refine ⟨_, rfl, x, CS, dx2, fs2, .ref pa, rfl, hx2, SC.cls, SC.parts, lp, pa, _, rfl, .inr tpa.sq, "0", _, rfl, rfl, by rw [List.length_map]; exact m1, ?_⟩
      rw [List.length_map, m2]
      refine ⟨_, rfl, _, rfl, _, rfl, t, q, ys, row, rfl, .inr ((ht.same s12).sq), .inr (SqT.of hq), by omega, fun p H3 s3 np ep => ?_⟩
      obtain ⟨ks, ks1, ks2⟩ := kps_of (List.Sublist.trans List.filter_sublist sub : (lessL ys row).Sublist (L.kps.map (·.1)))
      have hd2 : backN L (ks.map (·.1)) = false := by
        rw [ks2]
        unfold dubB at hd
        cases e : backN L (lessL ys row) with
        | false => rfl
        | true => rw [e, Bool.not_true, Bool.and_false, Bool.and_false] at hd; cases hd
      have ep2 : LotAt H3 p (ks.map (·.1)) := by
        rw [ks2]
        exact ep
      refine ⟨x, p, L, ks, rfl, sh.same (s12.trans s3), ok, ep2, ks1, back_lost ok ks1 hd2, fun v H4 vl hlost s4 => ?_⟩
      refine ⟨_, rfl, few_ok rfl, fun r nr => ?_⟩
      have s5 := same_new (o := .tup [.str "open", .str (stv (List.replicate L.parts.length false)), .str (stv v), .ref q]) nr
      exact k r _ (((s12.trans s3).trans s4).trans s5) (.inr ⟨v, q, row, ks, upd_same, s5 _ _ (s4 _ _ (s3 _ _ hq)), vl, rs, hd, ks1, ks2, hlost⟩)
end
end K6
set_option Elab.async false
set_option linter.all false
set_option maxRecDepth 100000
set_option maxHeartbeats 1500000
set_option pp.maxSteps 1200
set_option pp.deepTerms false
namespace K6
open PySem PySem.Spec PyProof.Rows L2 Lk
/-- what does not tell each part does not bring back -/
theorem back_same {L : Lore} (ok : LoreOk L) {ks : List KP} (sub : ks.Sublist L.kps) : backN L (ks.map (·.1)) = backB L ks := by
  cases hb : backB L ks with
  | true => exact backN_of hb
  | false =>
    obtain ⟨v, vl, hl⟩ := lost_has ok sub hb
    cases hn : backN L (ks.map (·.1)) with
    | false => rfl
    | true =>
      obtain ⟨As, hAs⟩ : ∃ As : Ans, As = ks.map fun k => (k, ansV L k v) := ⟨_, rfl⟩
      have f1 : As.map (·.1) = ks := by rw [hAs, List.map_map]; simp [Function.comp_def]
      have ao : AnsOk L As := ⟨by rw [f1]; exact sub, fun a ha => by
        rw [hAs] at ha
        obtain ⟨k, _, rfl⟩ := List.mem_map.mp ha
        exact ansV_len L k v⟩
      have nm : As.map (·.1.1) = ks.map (·.1) := by rw [names_eq, f1]
      have one := backN_one ok ao (by rw [nm]; exact hn)
      unfold lostB at hl
      obtain ⟨h1, h2⟩ := Bool.and_eq_true_iff.mp hl
      have h1 := of_decide_eq_true h1
      have h2 : ¬ true ∈ ks.flatMap fun k => ansV L k v := by simpa using h2
      have zl : (zv L.parts.length).length = L.parts.length := zv_len _
      have fv : v ∈ fitV L As := by
        refine List.mem_filter.mpr ⟨mem_vL.mpr vl, ?_⟩
        unfold fitB
        rw [List.all_eq_true, hAs]
        intro a ha
        obtain ⟨k, _, rfl⟩ := List.mem_map.mp ha
        exact decide_eq_true rfl
      have fz : zv L.parts.length ∈ fitV L As := by
        refine List.mem_filter.mpr ⟨mem_vL.mpr zl, ?_⟩
        unfold fitB
        rw [List.all_eq_true, hAs]
        intro a ha
        obtain ⟨k, hk, rfl⟩ := List.mem_map.mp ha
        refine decide_eq_true ?_
        show ansV L k (zv L.parts.length) = ansV L k v
        unfold ansV
        refine List.map_congr_left fun p hp => ?_
        rw [dot_zero']
        cases hd : dot (vecP L.parts p) v with
        | false => rfl
        | true => exact absurd (List.mem_flatMap.mpr ⟨k, hk, List.mem_map.mpr ⟨p, hp, hd⟩⟩) h2
      match h : fitV L As, one, fv, fz with
      | [], _, fv, _ => cases fv
      | [y], _, fv, fz =>
        have e : v = zv L.parts.length := by rw [List.mem_singleton.mp fv, List.mem_singleton.mp fz]
        rw [e] at h1
        have := List.eq_of_mem_replicate h1
        cases this
      | _ :: _ :: _, one, _, _ => simp at one
section
variable {P : Program} {w : World} {K : PySem.W.Frag} {mg : Str → Option Value} {base : Heap} {f : Addr} {fd : FuncData}
def spBrings (C CS : Addr) : Sp := fun vs H Q _ => ∃ (x t : Addr) (L : Lore) (ks : List KP), vs = [.ref x, .ref t] ∧ ShAt H C CS x L ∧ LoreOk L ∧ LotAt H t (ks.map (·.1)) ∧ ks.Sublist L.kps ∧ (backB L ks = false → ∃ v : Vec, v.length = L.parts.length ∧ lostB L ks v = true) ∧
  ∀ q v H', Same H H' → H' q = some (.tup [.str (if backB L ks = true then "back" else "lost"), v]) → Q (.ref q) H'
/-! ### _law_of, of a list or a tuple -/
theorem ix_or {X : Cx} {r1 r2 : R2} (h1 : IxR X r1) (h2 : IxR X r2) : IxR X (fun x y H Q => r1 x y H Q ∨ r2 x y H Q) := by
  intro value slice pins s σ H x y v u Q I rx ry h e
  rcases h with h | h
  · exact h1 value slice pins s σ H x y v u Q I rx ry h e
  · exact h2 value slice pins s σ H x y v u Q I rx ry h e
def spOfA (K : PySem.W.Frag) : Sp := fun vs H Q _ => ∃ (a l : Addr) (N : Nat) (xs : List V), vs = [.ref a, .ref l] ∧ PotAt a N H ∧ N ≤ 1000000 ∧ l ≠ a ∧ (H l = some (.lst xs) ∨ H l = some (.tup xs)) ∧ 0 < xs.length ∧ xs.length ≤ 1000 ∧
  ∀ (i : Nat) (x : V) (H' : Hp), xs[i]? = some x → ExtP a H H' → PotAt a (N + 1) H' → Q x H'
theorem ok_ofA {f1 : Addr} {fd1 : FuncData} (F : Fun K "_law_of" "_law_of" sOf f fd) (T : Bl mg) (F1 : Fun K "_law_take" "_law_take" sTake f1 fd1) (b1 : Binds K fd1 ["pot", "upto"] []) (m1 : mg "_law_take" = some (.ref f1)) :
    FnOk P w K mg base CX0 2 f fd ["pot", "some"] (spOfA K) := by
  have G1 : FnOk P w K mg base CX0 1 f1 fd1 ["pot", "upto"] spTake := ok_take F1 T
  refine F.ok scOf (fun vs H Q E h => ?_) (fun cdv A outer s H vs Q E hr h => ?_)
  · obtain ⟨a, l, N, xs, rfl, _⟩ := h
    rfl
  · obtain ⟨a, l, N, xs, rfl, hp, hN, nla, hl, h0, h1, k⟩ := h
    refine ⟨_, pss_one (ps_ret (pe_ix (ix_or ix_list ix_tup) (pv 1) (pe_call G1 hr rfl m1 F1.kp b1 .nil pass0 (pa_cons (pv 0) (pa_cons (pe_callB call_len_seq (by rfl) T.len PySem.boot_len (pa_cons (pv 1) pa_nil)) pa_nil))) (fun _ _ => rfl))), ?_⟩
    refine ⟨_, rfl, _, rfl, _, rfl, l, xs, rfl, hl.elim (fun h => .inl (SqL.of h)) (fun h => .inr (SqT.of h)), a, _, N, rfl, hp, hN, by omega, by omega, fun i H' i0 i1 ex hp' => ?_⟩
    obtain ⟨x, hx⟩ : ∃ x, xs[i.toNat]? = some x := ⟨_, List.getElem?_eq_getElem (by omega)⟩
    have e : atI xs i = some x := by
      have e : i = ((i.toNat : Nat) : Int) := by omega
      rw [e]
      exact atI_nat hx
    rcases hl with hl | hl
    · exact .inl ⟨l, xs, i, x, rfl, rfl, SqL.of (ex l _ nla hl), e, k i.toNat x H' hx ex hp'⟩
    · exact .inr ⟨l, xs, i, x, rfl, rfl, SqT.of (ex l _ nla hl), e, k i.toNat x H' hx ex hp'⟩
end
end K6
set_option Elab.async false
set_option linter.all false
set_option maxRecDepth 100000
set_option maxHeartbeats 1500000
namespace K6
open PySem PySem.Spec PyProof.Rows L2 Lk
/-! ### one order of all lots -/
theorem lexLt_anti : ∀ {ns ms : List Int}, ns.length = ms.length → HT.lexLt ns ms = false → HT.lexLt ms ns = false → ns = ms
  | [], [], _, _, _ => rfl
  | [], _ :: _, h, _, _ => by cases h
  | _ :: _, [], h, _, _ => by cases h
  | x :: xs, y :: ys, h, h1, h2 => by
    simp only [HT.lexLt] at h1 h2
    by_cases e : x = y
    · subst e
      rw [if_pos rfl] at h1 h2
      rw [lexLt_anti (by simpa using h) h1 h2]
    · rw [if_neg e] at h1
      rw [if_neg (fun z => e z.symm)] at h2
      have g1 := of_decide_eq_false h1
      have g2 := of_decide_eq_false h2
      exact absurd (show x = y by omega) e
theorem ltLen_anti {ns ms : List Int} (h1 : ltLen ns ms = false) (h2 : ltLen ms ns = false) : ns = ms := by
  unfold ltLen at h1 h2
  by_cases e : ns.length = ms.length
  · rw [if_pos e] at h1
    rw [if_pos e.symm] at h2
    exact lexLt_anti e h1 h2
  · rw [if_neg e] at h1
    rw [if_neg (fun z => e z.symm)] at h2
    have g1 := of_decide_eq_false h1
    have g2 := of_decide_eq_false h2
    omega
theorem pw_uniqR {α : Type} {R : α → α → Prop} (anti : ∀ a b, R a b → R b a → a = b) : ∀ {l m : List α}, l.Pairwise R → m.Pairwise R → l.Perm m → l = m
  | [], m, _, _, p => (List.Perm.eq_nil p.symm).symm
  | x :: l, [], _, _, p => absurd p.length_eq (by simp)
  | x :: l, y :: m, hl, hm, p => by
    have e : x = y := by
      rcases List.mem_cons.mp (p.mem_iff.mp (List.mem_cons_self (a := x) (l := l))) with e | hx
      · exact e
      rcases List.mem_cons.mp (p.mem_iff.mpr (List.mem_cons_self (a := y) (l := m))) with e | hy
      · exact e.symm
      exact anti _ _ ((List.pairwise_cons.mp hl).1 y hy) ((List.pairwise_cons.mp hm).1 x hx)
    subst e
    rw [pw_uniqR anti (List.pairwise_cons.mp hl).2 (List.pairwise_cons.mp hm).2 p.cons_inv]
theorem lots_uniq {zs : List Str} {r1 r2 : List (List Str)} (h1 : LotsOk zs r1) (h2 : LotsOk zs r2) : r1 = r2 := by
  obtain ⟨o1, rfl, p1, s1⟩ := h1
  obtain ⟨o2, rfl, p2, s2⟩ := h2
  have : o1 = o2 := pw_uniqR (R := fun x y : List Nat => ltLen (y.map fun p : Nat => (p : Int)) (x.map fun p : Nat => (p : Int)) = false) (fun a b h g => by
    have := ltLen_anti g h
    exact (List.map_inj_right (fun _ _ e => Int.ofNat.inj e)).mp this) s1 s2 (p1.trans p2.symm)
  rw [this]
/-! ### what a lot tells apart -/
theorem back_tells {L : Lore} (ok : LoreOk L) {ks : List KP} (sub : ks.Sublist L.kps) (h : backN L (ks.map (·.1)) = true) {v w : Vec} (vl : v.length = L.parts.length) (wl : w.length = L.parts.length) (same : ∀ k ∈ ks, ansV L k v = ansV L k w) : v = w := by
  obtain ⟨As, hAs⟩ : ∃ As : Ans, As = ks.map fun k => (k, ansV L k v) := ⟨_, rfl⟩
  have f1 : As.map (·.1) = ks := by rw [hAs, List.map_map]; simp [Function.comp_def]
  have ao : AnsOk L As := ⟨by rw [f1]; exact sub, fun a ha => by
    rw [hAs] at ha
    obtain ⟨k, _, rfl⟩ := List.mem_map.mp ha
    exact ansV_len L k v⟩
  have nm : As.map (·.1.1) = ks.map (·.1) := by rw [names_eq, f1]
  have one := backN_one ok ao (by rw [nm]; exact h)
  have fit : ∀ u : Vec, u.length = L.parts.length → (∀ k ∈ ks, ansV L k u = ansV L k v) → u ∈ fitV L As := fun u ul hu => by
    refine List.mem_filter.mpr ⟨mem_vL.mpr ul, ?_⟩
    unfold fitB
    rw [List.all_eq_true, hAs]
    intro a ha
    obtain ⟨k, hk, rfl⟩ := List.mem_map.mp ha
    exact decide_eq_true (hu k hk)
  have fv := fit v vl fun _ _ => rfl
  have fw := fit w wl fun k hk => (same k hk).symm
  match h : fitV L As, one, fv, fw with
  | [], _, fv, _ => cases fv
  | [y], _, fv, fw => rw [List.mem_singleton.mp fv, List.mem_singleton.mp fw]
  | _ :: _ :: _, one, _, _ => simp at one
theorem lost_zero {L : Lore} {ks : List KP} {v : Vec} (h : lostB L ks v = true) : v ≠ zv L.parts.length ∧ ∀ k ∈ ks, ansV L k v = ansV L k (zv L.parts.length) := by
  unfold lostB at h
  obtain ⟨h1, h2⟩ := Bool.and_eq_true_iff.mp h
  have h1 := of_decide_eq_true h1
  have h2 : ¬ true ∈ ks.flatMap fun k => ansV L k v := by simpa using h2
  refine ⟨fun e => ?_, fun k hk => ?_⟩
  · rw [e] at h1
    cases List.eq_of_mem_replicate h1
  · unfold ansV
    refine List.map_congr_left fun p hp => ?_
    rw [dot_zero']
    cases hd : dot (vecP L.parts p) v with
    | false => rfl
    | true => exact absurd (List.mem_flatMap.mpr ⟨k, hk, List.mem_map.mpr ⟨p, hp, hd⟩⟩) h2
/-- the keepers of a lot that answer two records unlike -/
def apartK (L : Lore) (ys : List Str) (v w : Vec) : List KP := L.kps.filter fun k => !decide (ansV L k v = ansV L k w) && decide (k.1 ∈ ys)
def apartL (L : Lore) (ys : List Str) (v w : Vec) : List Str := (apartK L ys v w).map (·.1)
theorem apart_sub (L : Lore) (ys : List Str) (v w : Vec) : (apartL L ys v w).Sublist (L.kps.map (·.1)) := List.filter_sublist.map _
theorem apart_symm (L : Lore) (ys : List Str) (v w : Vec) : apartL L ys v w = apartL L ys w v := by
  unfold apartL apartK
  congr 1
  refine List.filter_congr fun k _ => ?_
  congr 2
  exact decide_eq_decide.mpr ⟨fun h => h.symm, fun h => h.symm⟩
theorem kp_one {L : Lore} (ok : LoreOk L) {a b : KP} (ha : a ∈ L.kps) (hb : b ∈ L.kps) (e : a.1 = b.1) : a = b := by
  obtain ⟨i1, hi1, e1⟩ := List.getElem_of_mem ha
  obtain ⟨i2, hi2, e2⟩ := List.getElem_of_mem hb
  have e3 : (L.kps.map (·.1))[i1]'(by rw [List.length_map]; exact hi1) = (L.kps.map (·.1))[i2]'(by rw [List.length_map]; exact hi2) := by
    rw [List.getElem_map, List.getElem_map, e1, e2]
    exact e
  have := (List.getElem_inj ok.kn).mp e3
  subst this
  rw [← e1, ← e2]
theorem in_apart {L : Lore} (ok : LoreOk L) {ys : List Str} {v w : Vec} {k : KP} (hk : k ∈ L.kps) : k.1 ∈ apartL L ys v w ↔ ansV L k v ≠ ansV L k w ∧ k.1 ∈ ys := by
  constructor
  · intro h
    obtain ⟨b, hb, e⟩ := List.mem_map.mp h
    obtain ⟨h1, h2⟩ := List.mem_filter.mp hb
    have := kp_one ok h1 hk e
    subst this
    simpa using h2
  · intro h
    exact List.mem_map.mpr ⟨k, List.mem_filter.mpr ⟨hk, by simpa using h⟩, rfl⟩
theorem sub_self {ys zs : List Str} (h : ys.Sublist zs) (nd : zs.Nodup) : zs.filter (fun z => decide (z ∈ ys)) = ys := by
  have := sub_key (fun z : Str => z) h (by simpa using nd)
  simpa using this
theorem apart_filter {L : Lore} (ok : LoreOk L) {ys : List Str} (sub : ys.Sublist (L.kps.map (·.1))) (v w : Vec) : ys.filter (fun z => decide (z ∈ apartL L ys v w)) = apartL L ys v w := by
  have e : ys.filter (fun z => decide (z ∈ apartL L ys v w)) = ((L.kps.map (·.1)).filter fun z => decide (z ∈ ys)).filter (fun z => decide (z ∈ apartL L ys v w)) := by rw [sub_self sub ok.kn]
  rw [e, List.filter_filter, List.filter_map]
  unfold apartL apartK
  congr 1
  refine List.filter_congr fun k hk => ?_
  show (decide (k.1 ∈ apartL L ys v w) && decide (k.1 ∈ ys)) = _
  have := in_apart ok (ys := ys) (v := v) (w := w) hk
  by_cases h1 : ansV L k v = ansV L k w
  · rw [decide_eq_false (fun z => (this.mp z).1 h1), decide_eq_true h1]
    rfl
  · by_cases h2 : k.1 ∈ ys
    · rw [decide_eq_true (this.mpr ⟨h1, h2⟩), decide_eq_true h2, decide_eq_false h1]
      rfl
    · rw [decide_eq_false h2, Bool.and_false, Bool.and_false]
/-- whether each two records are told apart by more than twice so many keepers -/
def sureL (L : Lore) (ys : List Str) (n : Nat) : Bool := (vL L.parts.length).all fun v => (vL L.parts.length).all fun w => decide (v = w) || decide (2 * n < (apartL L ys v w).length)
theorem sureL_iff {L : Lore} {ys : List Str} {n : Nat} : sureL L ys n = true ↔ ∀ v w : Vec, v.length = L.parts.length → w.length = L.parts.length → v ≠ w → 2 * n < (apartL L ys v w).length := by
  unfold sureL
  rw [List.all_eq_true]
  constructor
  · intro h v w vl wl ne
    have := List.all_eq_true.mp (h v (mem_vL.mpr vl)) w (mem_vL.mpr wl)
    rw [decide_eq_false ne, Bool.false_or] at this
    exact of_decide_eq_true this
  · intro h v hv
    rw [List.all_eq_true]
    intro w hw
    by_cases e : v = w
    · rw [decide_eq_true e]; rfl
    · rw [decide_eq_true (h v w (mem_vL.mp hv) (mem_vL.mp hw) e), Bool.or_true]
theorem ext_sub (q : Str → Bool) : ∀ (ys : List Str) (M : Nat), (ys.filter q).length ≤ M → M ≤ ys.length → ∃ row : List Str, row.Sublist ys ∧ row.length = M ∧ ∀ z ∈ ys, q z = true → z ∈ row
  | [], M, _, h => ⟨[], List.nil_sublist _, by have : M = 0 := Nat.le_zero.mp h; rw [this]; rfl, fun z hz => by cases hz⟩
  | y :: ys, M, h1, h2 => by
    by_cases hq : q y = true
    · rw [List.filter_cons_of_pos hq, List.length_cons] at h1
      rw [List.length_cons] at h2
      obtain ⟨row, s, l, m⟩ := ext_sub q ys (M - 1) (by omega) (by omega)
      refine ⟨y :: row, s.cons₂ y, by rw [List.length_cons, l]; omega, fun z hz hz2 => ?_⟩
      rcases List.mem_cons.mp hz with rfl | hz
      · exact List.mem_cons_self
      · exact List.mem_cons_of_mem _ (m z hz hz2)
    · rw [List.filter_cons_of_neg hq] at h1
      by_cases hM : M ≤ ys.length
      · obtain ⟨row, s, l, m⟩ := ext_sub q ys M h1 hM
        refine ⟨row, s.cons y, l, fun z hz hz2 => ?_⟩
        rcases List.mem_cons.mp hz with rfl | hz
        · exact absurd hz2 hq
        · exact m z hz hz2
      · rw [List.length_cons] at h2
        exact ⟨y :: ys, List.Sublist.refl _, by rw [List.length_cons]; omega, fun z hz _ => hz⟩
theorem dub_sure {L : Lore} (ok : LoreOk L) {ys : List Str} (sub : ys.Sublist (L.kps.map (·.1))) {n : Nat} (h : ∀ row, row.Sublist (L.kps.map (·.1)) → dubB L ys (min (2 * n) ys.length) row = false) : sureL L ys n = true := by
  refine sureL_iff.mpr fun v w vl wl ne => Nat.lt_of_not_le fun le => ne ?_
  obtain ⟨row, rs, rl, rm⟩ := ext_sub (fun z => decide (z ∈ apartL L ys v w)) ys (min (2 * n) ys.length)
    (Nat.le_min.mpr ⟨by rw [apart_filter ok sub]; exact le, List.length_filter_le _ _⟩) (Nat.min_le_right _ _)
  have hd := h row (rs.trans sub)
  have hb : backN L (lessL ys row) = true := by
    unfold dubB at hd
    have h2 : (row.all fun y => decide (y ∈ ys)) = true := List.all_eq_true.mpr fun y hy => decide_eq_true (rs.subset hy)
    rw [decide_eq_true rl, h2, Bool.true_and, Bool.true_and] at hd
    cases e : backN L (lessL ys row) with
    | true => rfl
    | false => rw [e] at hd; cases hd
  obtain ⟨ks, ks1, ks2⟩ := kps_of (List.Sublist.trans List.filter_sublist sub : (lessL ys row).Sublist (L.kps.map (·.1)))
  refine back_tells ok ks1 (by rw [ks2]; exact hb) vl wl fun k hk => ?_
  have kl : k.1 ∈ lessL ys row := by rw [← ks2]; exact List.mem_map.mpr ⟨k, hk, rfl⟩
  obtain ⟨k1, k2⟩ := List.mem_filter.mp kl
  refine Classical.byContradiction fun hne => ?_
  have := rm k.1 k1 (decide_eq_true ((in_apart ok (ks1.subset hk)).mpr ⟨hne, k1⟩))
  simp [this] at k2
theorem sub_len {a b zs : List Str} (nd : zs.Nodup) (ha : a.Sublist zs) (hb : b.Sublist zs) (h : ∀ z ∈ a, z ∈ b) : a.length ≤ b.length := by
  rw [← sub_self ha nd, ← sub_self hb nd, ← List.countP_eq_length_filter, ← List.countP_eq_length_filter]
  exact List.countP_mono_left fun z _ hz => decide_eq_true (h z (of_decide_eq_true hz))
theorem apart_row {L : Lore} (ok : LoreOk L) {ys row : List Str} {ks : List KP} (ks1 : ks.Sublist L.kps) (ks2 : ks.map (·.1) = lessL ys row) {v w : Vec} (same : ∀ k ∈ ks, ansV L k v = ansV L k w) : ∀ z ∈ apartL L ys v w, z ∈ row := fun z hz => by
  obtain ⟨k, hk, rfl⟩ := List.mem_map.mp hz
  have km := (List.mem_filter.mp hk).1
  obtain ⟨h1, h2⟩ := (in_apart ok km).mp hz
  refine Classical.byContradiction fun hn => h1 ?_
  have : k.1 ∈ ks.map (·.1) := by
    rw [ks2]
    exact List.mem_filter.mpr ⟨h2, by rw [decide_eq_false hn]; rfl⟩
  obtain ⟨b, hb, e⟩ := List.mem_map.mp this
  have := kp_one ok (ks1.subset hb) km e
  subst this
  exact same b hb
theorem sure_dub {L : Lore} (ok : LoreOk L) {ys : List Str} (sub : ys.Sublist (L.kps.map (·.1))) {n : Nat} (h : sureL L ys n = true) {row : List Str} (rs : row.Sublist (L.kps.map (·.1))) : dubB L ys (min (2 * n) ys.length) row = false := by
  cases hd : dubB L ys (min (2 * n) ys.length) row with
  | false => rfl
  | true =>
    unfold dubB at hd
    obtain ⟨d1, d2⟩ := Bool.and_eq_true_iff.mp hd
    obtain ⟨d2, d3⟩ := Bool.and_eq_true_iff.mp d2
    have d1 := of_decide_eq_true d1
    obtain ⟨ks, ks1, ks2⟩ := kps_of (List.Sublist.trans List.filter_sublist sub : (lessL ys row).Sublist (L.kps.map (·.1)))
    have hn : backN L (ks.map (·.1)) = false := by
      rw [ks2]
      cases e : backN L (lessL ys row) with
      | false => rfl
      | true => rw [e] at d3; cases d3
    obtain ⟨v, vl, hl⟩ := back_lost ok ks1 hn
    obtain ⟨ne, same⟩ := lost_zero hl
    have := sureL_iff.mp h v (zv L.parts.length) vl (zv_len _) ne
    have := sub_len ok.kn (apart_sub L ys v (zv L.parts.length)) rs (apart_row ok ks1 ks2 same)
    omega
theorem sure_mono {L : Lore} {ys zs : List Str} {n : Nat} (h : ∀ z ∈ ys, z ∈ zs) (s : sureL L ys n = true) : sureL L zs n = true := by
  refine sureL_iff.mpr fun v w vl wl ne => Nat.lt_of_lt_of_le (sureL_iff.mp s v w vl wl ne) ?_
  unfold apartL apartK
  rw [List.length_map, List.length_map, ← List.countP_eq_length_filter, ← List.countP_eq_length_filter]
  refine List.countP_mono_left fun k _ hk => ?_
  obtain ⟨h1, h2⟩ := Bool.and_eq_true_iff.mp hk
  rw [h1, decide_eq_true (h _ (of_decide_eq_true h2))]
  rfl
/-! ### the least lots -/
def stepF (p : List Str → Bool) (kept : List (List Str)) (lot : List Str) : List (List Str) := if (p lot && !(kept.any fun r => r.all fun y => decide (y ∈ lot))) = true then kept ++ [lot] else kept
def leastF (p : List Str → Bool) (rws : List (List Str)) : List (List Str) := rws.foldl (stepF p) []
theorem stepF_grows (p : List Str → Bool) (kept : List (List Str)) (lot : List Str) (h : kept ≠ []) : stepF p kept lot ≠ [] := by
  unfold stepF
  split
  · simp
  · exact h
theorem foldF_grows (p : List Str → Bool) : ∀ (rws kept : List (List Str)), kept ≠ [] → rws.foldl (stepF p) kept ≠ []
  | [], _, h => h
  | r :: rws, kept, h => foldF_grows p rws _ (stepF_grows p kept r h)
theorem leastF_none (p : List Str → Bool) (rws : List (List Str)) : leastF p rws = [] ↔ ∀ r ∈ rws, p r = false := by
  unfold leastF
  induction rws with
  | nil => simp
  | cons r rws ih =>
    rw [List.foldl_cons]
    cases hp : p r with
    | true =>
      have e : stepF p [] r = [r] := by unfold stepF; rw [hp]; rfl
      rw [e]
      refine ⟨fun h => absurd h (foldF_grows p rws _ (by simp)), fun h => ?_⟩
      have := h r List.mem_cons_self
      rw [hp] at this
      cases this
    | false =>
      have e : stepF p [] r = [] := by unfold stepF; rw [hp]; rfl
      rw [e, ih]
      refine ⟨fun h x hx => ?_, fun h x hx => h x (List.mem_cons_of_mem _ hx)⟩
      rcases List.mem_cons.mp hx with rfl | hx
      · exact hp
      · exact h x hx
theorem fold_filter (p : List Str → Bool) : ∀ (rws kept : List (List Str)), (rws.filter p).foldl (stepF fun _ => true) kept = rws.foldl (stepF p) kept
  | [], _ => rfl
  | r :: rws, kept => by
    cases hp : p r with
    | true =>
      rw [List.filter_cons_of_pos hp, List.foldl_cons, List.foldl_cons, fold_filter p rws]
      have e : stepF (fun _ => true) kept r = stepF p kept r := by unfold stepF; rw [hp]
      rw [e]
    | false =>
      rw [List.filter_cons_of_neg (by rw [hp]; decide), List.foldl_cons, fold_filter p rws]
      have e : stepF p kept r = kept := by unfold stepF; rw [hp]; rfl
      rw [e]
theorem leastF_filter (p : List Str → Bool) (rws : List (List Str)) : leastF (fun _ => true) (rws.filter p) = leastF p rws := fold_filter p rws []
theorem stepF_sub {zs : List Str} (p : List Str → Bool) {kept : List (List Str)} {lot : List Str} (h : ∀ r ∈ kept, r.Sublist zs) (hl : lot.Sublist zs) : ∀ r ∈ stepF p kept lot, r.Sublist zs := by
  unfold stepF
  split
  · intro r hr
    rcases List.mem_append.mp hr with hr | hr
    · exact h r hr
    · rw [List.mem_singleton.mp hr]; exact hl
  · exact h
theorem stepF_len (p : List Str → Bool) (kept : List (List Str)) (lot : List Str) : (stepF p kept lot).length ≤ kept.length + 1 := by
  unfold stepF
  split
  · rw [List.length_append]; exact Nat.le_refl _
  · omega
end K6
set_option Elab.async false
set_option linter.all false
set_option maxRecDepth 100000
set_option maxHeartbeats 1500000
set_option pp.maxSteps 1200
set_option pp.deepTerms false
namespace K6
open PySem PySem.Spec PyProof.Rows L2 Lk
abbrev sIsTold : Stmt := top 13
theorem eqvAll_strs : ∀ a b : List Str, PyData.eqvAll (strsD a) (strsD b) = decide (a = b)
  | [], [] => by simp [strsD, PyData.eqvAll]
  | [], _ :: _ => by simp [strsD, PyData.eqvAll]
  | _ :: _, [] => by simp [strsD, PyData.eqvAll]
  | x :: a, y :: b => by
    have ih := eqvAll_strs a b
    unfold strsD at ih ⊢
    rw [List.map_cons, List.map_cons, PyData.eqvAll, ih]
    by_cases h : x = y <;> by_cases g : a = b <;> simp [PyData.eqv, h, g]
theorem eqv_strsT (a b : List Str) : PyData.eqv (.tuple (strsD a)) (.tuple (strsD b)) = decide (a = b) := by
  rw [← eqvAll_strs]
  simp [PyData.eqv]
theorem in_rows (sel : List (List Str)) (r : List Str) : (sel.map fun z => PyData.tuple (strsD z)).any (fun z => PyData.eqv z (.tuple (strsD r))) = decide (r ∈ sel) := by
  rw [List.any_map, Bool.eq_iff_iff, List.any_eq_true, decide_eq_true_iff]
  constructor
  · rintro ⟨z, hz, e⟩
    have e : PyData.eqv (.tuple (strsD z)) (.tuple (strsD r)) = true := e
    rw [eqv_strsT] at e
    rw [← of_decide_eq_true e]
    exact hz
  · intro h
    refine ⟨r, h, ?_⟩
    show PyData.eqv (.tuple (strsD r)) (.tuple (strsD r)) = true
    rw [eqv_strsT]
    exact decide_eq_true rfl
theorem dp_rows {K : PySem.W.Frag} {H : Hp} : ∀ {ts : List V} {rows : List (List Str)}, Paired (RelT H) ts rows → DpAll K H ts (rows.map fun r => PyData.tuple (strsD r))
  | _, _, .nil => .nil
  | _, _, .cons ⟨t, e1, e2⟩ r => by
    subst e1
    exact .cons (.tup (SqT.of e2) (dp_strs _)) (dp_rows r)
theorem RelT.keepP {H H' : Hp} (k : Keep H H') (v : V) (r : List Str) (h : RelT H v r) : RelT H' v r := by
  obtain ⟨t, e1, e2⟩ := h
  exact ⟨t, e1, k _ _ e2 fun _ z => by cases z⟩
theorem rows_keep {H H' : Hp} {ts : List V} {rows : List (List Str)} (p : Paired (RelT H) ts rows) (k : Keep H H') : Paired (RelT H') ts rows := Paired.mapP p fun v r h => RelT.keepP k v r h
theorem nice_lot {zs r : List Str} (nk : NmOk zs) (s : r.Sublist zs) : Nice (6 * (8 + 1)) 1 (.tuple (strsD r)) := nice_strs (fun z hz => nk.ok z (s.subset hz)) (Nat.le_trans s.length_le nk.k6)
def hasB (rows : List (List Str)) (ys : List Str) : Bool := rows.any fun r => r.all fun y => decide (y ∈ ys)
section
variable {P : Program} {w : World} {K : PySem.W.Frag} {mg : Str → Option Value} {base : Heap} {f : Addr} {fd : FuncData}
def spFirst : Sp := fun vs H Q _ => ∃ (l t : Addr) (ts : List V) (rows : List (List Str)) (ys : List Str), vs = [.ref l, .ref t] ∧ H l = some (.lst ts) ∧ Paired (RelT H) ts rows ∧ rows.length ≤ 100 ∧ (∀ r ∈ rows, r.length ≤ 6) ∧ H t = some (.tup (ys.map V.str)) ∧
  ∀ v H', Same H H' → (v = .non ∧ hasB rows ys = false ∨ (∃ i : Int, v = .int i) ∧ hasB rows ys = true) → Q v H'
def spHasOne : Sp := fun vs H Q _ => ∃ (l t : Addr) (ts : List V) (rows : List (List Str)) (ys : List Str), vs = [.ref l, .ref t] ∧ H l = some (.lst ts) ∧ Paired (RelT H) ts rows ∧ rows.length ≤ 100 ∧ (∀ r ∈ rows, r.length ≤ 6) ∧ H t = some (.tup (ys.map V.str)) ∧
  ∀ H', Same H H' → Q (.bl (hasB rows ys)) H'
def spLeast (C : Addr) : Sp := fun vs H Q _ => ∃ (c l : Addr) (zs : List Str) (ts : List V) (sel : List (List Str)), vs = [.ref c, .ref l] ∧ CircAt H C c zs ∧ NmOk zs ∧ zs.length ≤ 6 ∧ H l = some (.lst ts) ∧ Paired (RelT H) ts sel ∧ (∀ r ∈ sel, r.Sublist zs) ∧ sel.length ≤ 64 ∧
  ∀ q us rws H', Same H H' → H' q = some (.tup us) → Paired (RelT H') us (leastF (fun r => decide (r ∈ sel)) rws) → LotsOk zs rws → Q (.ref q) H'
theorem lots_64 {zs : List Str} {rws : List (List Str)} (h : LotsOk zs rws) (l6 : zs.length ≤ 6) : rws.length ≤ 64 := by
  obtain ⟨o, rfl, p, _⟩ := h
  rw [List.length_map, p.length_eq, List.length_map, List.length_range]
  exact Nat.pow_le_pow_right (by decide) l6
end
end K6
set_option Elab.async false
set_option linter.all false
set_option maxRecDepth 100000
set_option maxHeartbeats 4000000
/-! Part X: exceptions of the text as values: made, asked for their class, read. -/
namespace Lk
open PySem PySem.Spec PyProof.Rows L2
/-- an own exception with the one field `value`: its object at a, of the class at C, its dict at d -/
def ErrAt (H : Hp) (C a d : Addr) (v : V) : Prop := H a = some (exo a C (some d)) ∧ H d = some (exd d [("value", v)])
theorem ErrAt.same {H H' : Hp} {C a d : Addr} {v : V} (h : ErrAt H C a d v) (k : Same H H') : ErrAt H' C a d v := ⟨k _ _ h.1, k _ _ h.2⟩
/-- what is asked of such a class: all of it is read off the written part -/
structure ErC (K : PySem.W.Frag) (C fI : Addr) : Prop where
  oex : OexC K C
  init : PySem.W.findIn K (.ref C) "__init__" = some (some (.ref fI))
  noV : PySem.W.findIn K (.ref C) "value" = some none
  ga : PySem.W.findIn K (.ref C) "__getattribute__" = some (some (.builtin "BaseException.__getattribute__"))
  gg : PySem.W.findIn K (.ref C) "__getattr__" = some none
  hd : PySem.W.hasDictIn K C = true
  cl : PySem.W.findIn K (.ref C) "__class__" = some (some (.builtin "object.__class__"))
  ob : PySem.W.mroIn K C (.type "object") = some true
/-- .. of the written part as a whole -/
structure ErK (K : PySem.W.Frag) (fI : Addr) : Prop where
  fn : PySem.W.typeIn K (.ref fI) = some (.type "function")
  cg : PySem.W.specialIn K (.builtin "object.__class__") "__get__" = some (some (.builtin "getset_descriptor.__get__"))
  ct : PySem.W.takesIn K (.builtin "object.__class__") = some true
/-- the promise of that __init__ -/
def spInitV (K : PySem.W.Frag) (fI : Addr) : Sp := fun vs H Q _ => ∃ (a C : Addr) (v : V), vs = [.ref a, v] ∧ ErC K C fI ∧ H a = some (exo a C none) ∧
  ∀ d, H d = none → d ≠ a → Q .non (upd (upd H d (exd d [("value", v)])) a (exo a C (some d)))
section
variable {X : Cx} {lev : Nat} {C fI : Addr} {fD : FuncData} {x : Str} {e : Expr} {t : TE} {p pos : Pos}
/-- C(e) as a value -/
def tErr (C : Addr) (t : TA) : TE := fun σ H Q => t σ H fun vs H1 => ∃ v, vs = [v] ∧ ∀ a d H2, H1 a = none → H1 d = none → Same H1 H2 → ErrAt H2 C a d v → Q (.ref a) H2
theorem pe_err {t : TA} (T : ErC X.K C fI) (TK : ErK X.K fI) (G : FnOk X.prog X.w X.K X.mg X.base CX0 lev fI fD ["self", "value"] (spInitV X.K fI)) (room : Room (lev + 1) X.A) (hb : Binds X.K fD ["self", "value"] [])
    (hg : Gl X x) (hm : X.mg x = some (.ref C)) (ha : PA X [e] t) (hdb : (x == ("__debug__" : Str)) = false := by decide)
    (hst : starEach [e] X.env = (false, eval e X.env) :: starEach [] X.env := by rfl) (hpl : (backTo pos (starEach [] X.env)).any (·.1) = false := by rfl) :
    PE X (.Call (.Name x p) [e] [] pos) (tErr C t) := by
  constructor
  intro pins s σ H Q I want
  obtain ⟨nm, qq, NN, bs, bm, sn, su, ab, col, dd, k0, k1, k2, k3, k5, hC, hbm⟩ := T.oex.cls
  refine wpAny_Call_Name_kw (ld_glob I hg hm ?_ hdb)
  refine PySem.W.callWith_K (h₀ := X.base) I.ok.mod.kin T.oex.kC (thn (ha.run pos pins s σ H _ I want) ?_) hst hpl
  rintro us s1 ⟨vs, H1, I1, rel, v, rfl, q1⟩
  refine ⟨I1.kIn, ?_⟩
  obtain ⟨hp, g, dr, tk, os⟩ := s1
  show wpAny _ _ (call (.ref C) us) _ _ _
  have up : hp.objs.size ≤ hp.objs.size + 1 := Nat.le_succ _
  have free : H1 (hp.objs.size + 1) = none := I1.hok.fresh up
  generalize hA : hp.objs.size + 1 = a at free up
  have keep : ∀ b o, hp.get? b = some o → ((hp.push (PySem.W.kdv_tup us)).push (PySem.HandSPX.excO C hp.objs.size)).get? b = some o :=
    fun b o z => Heap.get?_push_of_some _ (Heap.get?_push_of_some _ z)
  have here : ((hp.push (PySem.W.kdv_tup us)).push (PySem.HandSPX.excO C hp.objs.size)).get? a = some (PySem.HandSPX.excO C hp.objs.size) := by
    rw [← hA]
    heap_get
  have I2 : Inv X pins σ (upd H1 a (exo a C none)) ⟨(hp.push (PySem.W.kdv_tup us)).push (PySem.HandSPX.excO C hp.objs.size), g, dr, tk, os⟩ :=
    I1.laid (t' := tk) (a := a) (o := exo a C none) keep up (exo_ok here)
  have rel2 : Vals [V.ref a, v] (Value.ref a :: us) := .cons rfl rel
  have many : us.length = 1 := (Paired.length rel).symm
  have few : us.length ≤ sizeLine := by rw [many, sizeLine_eq]; decide
  have sp : spInitV X.K fI [V.ref a, v] (upd H1 a (exo a C none)) (fun r H2 => r = .non ∧ Q (.ref a) H2) E0 := by
    refine ⟨a, C, v, rfl, T, upd_same, fun d hd nd => ⟨rfl, q1 a d _ free ?_ ?_ ⟨upd_same, ?_⟩⟩⟩
    · rw [upd_ne nd] at hd; exact hd
    · intro b o z
      have nb := ne_of_none z free
      have nd2 : b ≠ d := fun y => by rw [← y, upd_ne nb, z] at hd; cases hd
      rw [upd_ne nb, upd_ne nd2, upd_ne nb]
      exact z
    · rw [upd_ne nd, upd_same]
  have binds := hb ⟨(hp.push (PySem.W.kdv_tup us)).push (PySem.HandSPX.excO C hp.objs.size), g, dr, tk, os⟩ (Value.ref a :: us) I2.kIn (by simp [many])
  rw [List.append_nil] at binds
  subst hA
  refine wpAny_call (PySem.HandSPX.call_own F.excBase_ValueError (fun Y => PySem.HandSPX.refsVE_contains Y bm hbm) (I1.kIn _ _ hC) (PySem.W.looks_findIn I1.kIn T.init)
    (fun self => PySem.W.bind_fn I1.kIn self TK.fn) few ?_)
  refine codeAny_mono (G.run _ X.stack _ _ ⟨Value.ref (hp.objs.size + 1) :: us, []⟩ (Value.ref (hp.objs.size + 1) :: us) _ _ E0 (room.make C us []) (I2.env0.make C us []) binds rel2 sp) ?_
  intro r s' hq
  cases r with
  | error er => exact hq.elim
  | ok fl =>
    cases fl with
    | ret u =>
      obtain ⟨w', H2, J, rv, e0, q2⟩ := I2.after hq
      subst e0
      exact ⟨rv, .ref (hp.objs.size + 1), H2, J, rfl, q2⟩
    | next => exact False.elim hq
    | brk => exact False.elim hq
    | cont => exact False.elim hq
/-- e.value -/
def tErrV (t : TE) : TE := fun σ H Q => t σ H fun x H1 => ∃ a C d v fI, x = .ref a ∧ ErC X.K C fI ∧ ErrAt H1 C a d v ∧ Q v H1
theorem pe_errV {e : Expr} {t : TE} (he : PE X e t) (hb : attributeBase e "value" X.env (eval e X.env) = eval e X.env := by rfl) : PE X (.Attribute e "value" pos) (tErrV (X := X) t) := by
  constructor
  intro pins s σ H Q I want
  refine attr_of hb (thn (he.run pins s σ H _ I want) ?_)
  rintro u s1 ⟨x, H1, I1, rx, a, C, d, v, fI, rfl, T, ⟨ea, ed⟩, q⟩
  cases (show u = Value.ref a from rx)
  obtain ⟨t1, ho⟩ := exo_at I1.hok ea
  obtain ⟨mA, hns, rel⟩ := exd_at I1.hok ed
  obtain ⟨od, hod, hl⟩ := lookIn_ns hns
  obtain ⟨u, hu, ru⟩ := RelO.some_of (v := v) (o := mA "value") (by
    have := rel "value"
    rw [lookup_put, if_pos rfl] at this
    exact this)
  have J : PySem.W.InstAt s1.heap a { cls := .ref C, dict := some d, data := .fields #[.ref t1, .none, .none, .none, .bool false, .none] } C (some od) := ⟨ho, rfl, rfl, hod⟩
  exact HandSPX.exc_get I1.kIn J T.ga T.gg T.oex.exC (PySem.W.findObj_own T.hd T.noV rfl (by rw [hl, hu])) (handed_of ru) ⟨v, H1, I1.tok _, ru, q⟩
/-- isinstance(e, D) of such an exception -/
def rErrIs (K : PySem.W.Frag) : List V → Hp → VK → Prop := fun xs H Q => ∃ (a C d fI : Addr) (v c : V) (u : Value) (b : Bool), xs = [.ref a, c] ∧ ErC K C fI ∧ ErK K fI ∧ ErrAt H C a d v ∧ ClsV c u ∧ PySem.W.kitOne K (.ref C) u = some b ∧ Q (.bl b) H
theorem call_errIs : CallR X (.builtin "isinstance") (rErrIs X.K) := by
  intro pins s σ H xs us Q I r h
  obtain ⟨a, C, d, fI, v, c, u, b, rfl, T, TK, ⟨ea, ed⟩, hc, hk, q⟩ := h
  obtain ⟨u1, u2, rfl, r1, r2⟩ := vals2 r
  have e2 := hc.eq r2
  subst e2
  cases (show u1 = Value.ref a from r1)
  obtain ⟨t1, ho⟩ := exo_at I.hok ea
  obtain ⟨mA, hns, rel⟩ := exd_at I.hok ed
  obtain ⟨od, hod, _⟩ := lookIn_ns hns
  have J : PySem.W.InstAt s.heap a { cls := .ref C, dict := some d, data := .fields #[.ref t1, .none, .none, .none, .bool false, .none] } C (some od) := ⟨ho, rfl, rfl, hod⟩
  have hcl : (PySem.W.clsIn X.K C).isSome = true := by
    have := T.hd
    unfold PySem.W.hasDictIn at this
    cases z : PySem.W.clsIn X.K C with
    | none => rw [z] at this; simp at this
    | some _ => rfl
  exact PySem.W.kia_one (PySem.W.kitx_exc hcl T.ga T.gg T.oex.exC T.cl TK.cg TK.ct T.ob) I.kIn J hk (fun z => nomatch z) fun tk => ⟨.bl b, H, I.tok tk, rfl, q⟩
end

/-! ### what the written part says of the classes -/
abbrev veMro : List Value := [.type "ValueError", .type "Exception", .type "BaseException", .type "object"]
/-- one class of the text, below the class at L (whose __init__ stands at fI), bound to the name x -/
structure ErRow (K : PySem.W.Frag) (mg : Str → Option Value) (fI : Addr) (ms : List Value) (x : Str) (C : Addr) : Prop where
  at_ : mg x = some (.ref C)
  er : ErC K C fI
  some_ : (PySem.W.clsIn K C).isSome = true
  mro : ∀ b : Value, PySem.W.subIn K (.ref C) b = some ((.ref C :: ms).contains b)
theorem erRow_mk {K : PySem.W.Frag} {h : Heap} {mg : Str → Option Value} (X : K.In h) (G : h.Ns mainGlobals mg) {fI C : Addr} {x : Str} {ms : List Value}
    {nm q : Str} {N : Addr} {bs : List Value} {sn : List Str} {su : List Value} {ab : Bool} {col : Option Bool} {dd : Option Addr} {m0 m1 m2 m3 m5 : Option Value}
    (aC : PySem.W.nsIn K mainGlobals x = some (some (.ref C)))
    (xL : K.lookup C = some (excClassObj nm q C N bs ms true sn su ab col dd m0 m1 m2 m3 m5 "ValueError.__new__"))
    (hms : PySem.HandSPX.refsVE ms = true)
    (sa : PySem.W.findIn K (.ref C) "__setattr__" = some (some (.builtin "object.__setattr__")))
    (ga : PySem.W.findIn K (.ref C) "__getattribute__" = some (some (.builtin "BaseException.__getattribute__")))
    (gg : PySem.W.findIn K (.ref C) "__getattr__" = some none)
    (nv : PySem.W.findIn K (.ref C) "value" = some none)
    (ini : PySem.W.findIn K (.ref C) "__init__" = some (some (.ref fI)))
    (cl : PySem.W.findIn K (.ref C) "__class__" = some (some (.builtin "object.__class__")))
    (kC : PySem.W.keepIn K (.ref C) = true) : ErRow K mg fI ms x C := by
  have hcl : PySem.W.clsIn K C = some { name := nm, bases := bs, mro := .ref C :: ms, ns := N, qualname := q, hasDict := true, slotNames := sn, subclasses := su, abstract := ab, collection := col, hasDel := false } := by
    unfold PySem.W.clsIn
    rw [xL] <;> rfl
  have hmro : ∀ b : Value, PySem.W.mroIn K C b = some ((.ref C :: ms).contains b) := by
    intro b
    unfold PySem.W.mroIn
    rw [hcl] <;> rfl
  have hty : PySem.W.typeIn K (.ref C) = some (.type "type") := by
    show (K.lookup C).map (·.cls) = _
    rw [xL] <;> rfl
  have has : ∀ Y : String, veMro.contains (.type Y) = true → ((.ref C :: ms).contains (.type Y)) = true := by
    intro Y hY
    have := PySem.HandSPX.refsVE_contains Y (.ref C :: ms) (show PySem.HandSPX.refsVE (.ref C :: ms) = true from hms)
    rw [this]
    exact hY
  refine ⟨PySem.W.mg_of X G aC, ⟨⟨⟨nm, q, N, bs, ms, sn, su, ab, col, dd, m0, m1, m2, m3, m5, xL, hms⟩, sa, ?_, hty, kC⟩, ini, nv, ga, gg, ?_, cl, ?_⟩, ?_, hmro⟩
  · show PySem.W.mroIn K C _ = _
    rw [hmro, has "BaseException" (by decide +kernel)]
  · unfold PySem.W.hasDictIn
    rw [hcl] <;> rfl
  · rw [hmro, has "object" (by decide +kernel)]
  · rw [hcl] <;> rfl
/-- isinstance, as the classes' chains tell it -/
theorem ErRow.kit {K : PySem.W.Frag} {mg : Str → Option Value} {fI C D : Addr} {ms ms' : List Value} {x y : Str} (r : ErRow K mg fI ms x C) (r' : ErRow K mg fI ms' y D) :
    PySem.W.kitOne K (.ref C) (.ref D) = some ((.ref C :: ms).contains (.ref D)) := by
  unfold PySem.W.kitOne
  by_cases e : C = D
  · subst e
    rw [if_pos (by simp)]
    simp
  · have n : ((Value.ref C == Value.ref D) = true) ↔ False := by simp [e]
    rw [if_neg (by rw [n]; exact id)]
    show (if ((PySem.W.clsIn K D).isSome && PySem.W.typeIn K (.ref D) == some (.type "type")) = true then PySem.W.subIn K (.ref C) (.ref D) else none) = _
    rw [if_pos (by rw [r'.some_, r'.er.oex.tyC]; rfl)]
    exact r.mro _
theorem ErRow.kitT {K : PySem.W.Frag} {mg : Str → Option Value} {fI C : Addr} {ms : List Value} {x : Str} (r : ErRow K mg fI ms x C) (T : String) (hT : PySem.W.kitMeta T = true) :
    PySem.W.kitOne K (.ref C) (.type T) = some ((.ref C :: ms).contains (.type T)) := by
  unfold PySem.W.kitOne
  rw [if_neg (by simp)]
  show (if PySem.W.kitMeta T = true then PySem.W.subIn K (.ref C) (.type T) else none) = _
  rw [if_pos hT]
  exact r.mro _
/-- a row each for several classes -/
inductive ErRows (K : PySem.W.Frag) (mg : Str → Option Value) (fI : Addr) (ms : List Value) : List Str → List Addr → Prop
  | nil : ErRows K mg fI ms [] []
  | cons {x : Str} {C : Addr} {xs : List Str} {Cs : List Addr} : ErRow K mg fI ms x C → ErRows K mg fI ms xs Cs → ErRows K mg fI ms (x :: xs) (C :: Cs)
theorem ErRows.get {K : PySem.W.Frag} {mg : Str → Option Value} {fI : Addr} {ms : List Value} : ∀ {xs : List Str} {Cs : List Addr} (i : Nat) {x : Str}, ErRows K mg fI ms xs Cs → xs[i]? = some x → ErRow K mg fI ms x (Cs.getD i 0)
  | _, _, _, _, .nil, e => by simp at e
  | _, _, 0, _, .cons r _, e => by simp at e; subst e; exact r
  | _, _, i + 1, _, .cons _ rs, e => by
    have := ErRows.get i rs (by simpa using e)
    simpa using this
theorem ErRows.length {K : PySem.W.Frag} {mg : Str → Option Value} {fI : Addr} {ms : List Value} : ∀ {xs : List Str} {Cs : List Addr}, ErRows K mg fI ms xs Cs → xs.length = Cs.length
  | _, _, .nil => rfl
  | _, _, .cons _ r => congrArg (· + 1) r.length
theorem ErRows.mem {K : PySem.W.Frag} {mg : Str → Option Value} {fI : Addr} {ms : List Value} {C : Addr} : ∀ {xs : List Str} {Cs : List Addr}, ErRows K mg fI ms xs Cs → C ∈ Cs → ∃ x, ErRow K mg fI ms x C
  | _, _, .nil, h => by simp at h
  | _, _, .cons r rs, h => by
    rcases List.mem_cons.mp h with rfl | h
    · exact ⟨_, r⟩
    · exact rs.mem h
end Lk
set_option Elab.async false
set_option linter.all false
set_option maxRecDepth 100000
set_option maxHeartbeats 4000000
/-! Part Ex: an exception that is caught and stays behind the suite. -/
namespace Lk
open PySem PySem.Spec PyProof.Rows L2
/-- at a: an exception that was caught and stays, of the class cls, its dict d -/
def exq (a : Addr) (cls : Value) (d : Option Addr) : HO := .ext fun h => ∃ oe vs, h.get? a = some oe ∧ Zc cls d oe ∧ oe.data = .fields vs
theorem exq_ok {P : Program} {w : World} {H : Hp} {h : Heap} {a : Addr} {cls : Value} {d : Option Addr} {oe : Obj} {vs : Array Value} (e : h.get? a = some oe) (z : Zc cls d oe) (f : oe.data = .fields vs) : ObjOk P w H h a (exq a cls d) :=
  ⟨⟨oe, vs, e, z, f⟩, ⟨oe, e⟩, fun _ _ ⟨o, v, x, y, u⟩ k => ⟨o, v, k _ x, y, u⟩⟩
theorem exq_at {P : Program} {w : World} {H : Hp} {h : Heap} {a : Addr} {cls : Value} {d : Option Addr} (hok : HOk P w H h) (e : H a = some (exq a cls d)) : ∃ oe vs, h.get? a = some oe ∧ Zc cls d oe ∧ oe.data = .fields vs := by
  have x : ObjOk P w H h a (exq a cls d) := hok a _ e
  exact x.1
section
variable {X : Cx} {pins : List (Addr × Obj)} {σ : L2.St} {H : Hp} {s : Shared} {a : Addr} {cls : Value} {d : Option Addr} {oe : Obj} {vs : Array Value}
/-- such an exception is taken among what is known -/
theorem track (I : Inv X pins σ H s) (e : s.heap.get? a = some oe) (z : Zc cls d oe) (f : oe.data = .fields vs) (na : H a = none) (nL : a ≠ X.env.locals) (n0 : X.s_0.heap.get? a = none) (np : ∀ p ∈ X.pn ++ pins, p.1 ≠ a) :
    Inv X pins σ (upd H a (exq a cls d)) s := by
  have far : ∀ {b : Addr} {u : HO}, H b = some u → b ≠ a := fun q => ne_of_none q na
  refine ⟨I.ok, I.os, I.bare, ⟨I.base.keep, I.base.slot, fun b o q n x => ?_, I.base.there, fun b xs q => ?_, fun b o u q => ?_, fun b ps q => ?_⟩, I.loc, I.cell, ?_, fun x c q => ?_, fun p hp => ?_, HOk.laidN I.hok (fun _ _ q => q) na (exq_ok e z f), I.len⟩
  · rw [upd_ne (fun y => by rw [y, n0] at q; cases q)]
    exact I.base.free b o q n x
  · have t := I.base.tups b xs q
    rw [upd_ne (far t)]
    exact t
  · have t := I.base.frzs b o u q
    rw [upd_ne (far t)]
    exact t
  · obtain ⟨more, t⟩ := I.base.tbls b ps q
    exact ⟨more, by rw [upd_ne (far t)]; exact t⟩
  · rw [upd_ne (Ne.symm nL)]
    exact I.free
  · have nc : c ≠ a := fun y => by
      obtain ⟨v, o, h1, h2⟩ := I.cell x c q
      rw [y, e] at h1
      cases h1
      rw [f] at h2
      cases h2
    rw [upd_ne nc]
    exact I.freeC x c q
  · obtain ⟨h1, h2, h3⟩ := I.pin p hp
    exact ⟨h1, by rw [upd_ne (np p hp)]; exact h2, h3⟩
theorem suiteT (I : Inv X pins σ H s) (a : Addr) : Inv (X.suite a (X.pn ++ pins)) [] σ H s :=
  ⟨I.ok.suite _ _, I.os, I.bare, I.base, I.loc, I.cell, I.free, I.freeC, fun p hp => I.pin p (by rw [List.append_nil] at hp; exact hp), I.hok, I.len⟩
theorem unsuiteT {pn' : List (Addr × Obj)} (ok : X.Ok) (I : Inv (X.suite a (X.pn ++ pins)) pn' σ H s) : Inv X pins σ H s :=
  ⟨ok, I.os, I.bare, I.base, I.loc, I.cell, I.free, I.freeC, fun p hp => I.pin p (List.mem_append_left _ hp), I.hok, I.len⟩
end
/-- the ends behind a suite whose name, in slot i, goes -/
def behind (i : Nat) (D : Ends) : Ends := { nx := fun σ H => D.nx (σ.set i none) H, rt := D.rt, bk := fun σ H => D.bk (σ.set i none) H, ct := fun σ H => D.ct (σ.set i none) H }
/-- what 'except x as n: suite' wishes of an exception of the body that it catches for sure -/
def wTrk (K : PySem.W.Frag) (c : Value) (i : Nat) (ts : TS) (D : Ends) : WX := fun cls d σ H =>
  PySem.W.exmOne K cls c = some true ∧ ∀ a, H a = none → ts (behind i D) (σ.set i (some (.ref a))) (upd H a (exq a cls d))
section
variable {X : Cx} {x n : Str} {c : Value} {i : Nat} {body suite : List Stmt} {b₀ : Stmt} {np pos pos' : Pos} {tb : WX → TS} {ts : TS}
theorem ps_try_trk (hs : X.stack = X.env :: X.outer) (hf : X.env.frame = some X.env.locals) (hex : X.ex = []) (hN : X.N.Nodup) (hi : X.N[i]? = some n) (hl : X.env.kindOf n = some .local) (hc : Names X x c)
    (hb : ∀ (W : WX) (pn : List (Addr × Obj)) (xe : Value → Shared → Prop), Takes (X.tr pn xe) W → PassesOwn (model X.prog X.w) X.A X.env xe → PSs (X.tr pn xe) body (tb W))
    (hu : ∀ (a : Addr) (pn : List (Addr × Obj)), PSs (X.suite a pn) (b₀ :: suite) ts) :
    PS X (.Try body [.ExceptHandler (some (.Name x np)) (some n) (b₀ :: suite) pos'] [] [] pos) (fun D σ H => tb (wTrk X.K c i ts D) D σ H) := by
  constructor
  intro pins s σ H D I want
  have ok := I.ok
  have fr : X.A.frames = some (X.env :: X.outer) := ok.frames.trans (congrArg some hs)
  refine wpAny_Try_except (wpAny_mono ((hb (wTrk X.K c i ts D) (X.pn ++ pins) _ ?takes PassesOwn.looking).run [] s σ H D (I.toTry _) want) ?fine (fun _ _ z => z))
  case fine =>
    intro fl s1 z
    cases fl with
    | next => exact wpAny_execs_nil (let ⟨p, q, J, r⟩ := z; ⟨p, q, J.ofTry ok, r⟩)
    | brk => exact let ⟨p, q, J, r⟩ := z; ⟨p, q, J.ofTry ok, r⟩
    | cont => exact let ⟨p, q, J, r⟩ := z; ⟨p, q, J.ofTry ok, r⟩
    | ret u => exact let ⟨v, p, q, J, r⟩ := z; ⟨v, p, q, J.ofTry ok, r⟩
  case takes =>
    rintro _ s' ⟨a, B, sI, pins', σ', H', cls, d, rfl, J', nb, up, sky, na, os, ag, yes, go⟩
    have J : Inv X pins σ' H' sI := J'.ofTry ok
    rw [show (X.tr (X.pn ++ pins) _).stack = X.env :: X.outer from hs] at sky
    show wpAny _ X.A (noteFrame (.ref a) X.env) _ _ _
    refine Sky.land Zc.steady fr hf sky fun h3 g3 up3 => ?_
    have J3 : Inv X pins σ' H' { s' with heap := h3 } := J.landed nb g3.1 (up.trans up3) os ag
    obtain ⟨o3, v3, at3, z3, f3⟩ := g3.there
    have nf : a ∉ frs (X.env :: X.outer) := fun m => by
      obtain ⟨_, o, e, no⟩ := g3.2.2.1.mem m
      rw [at3] at e
      cases e
      exact no _ f3
    have nL : a ≠ X.env.locals := fun y => nf (List.mem_filterMap.mpr ⟨X.env, List.mem_cons_self, by rw [hf, y]⟩)
    have gone : sI.heap.get? a = none := by
      cases q : sI.heap.get? a with
      | none => rfl
      | some o =>
        have y := nb a o q (by rw [hs]; exact nf)
        rw [g3.2.1] at y
        cases y
    have n0 : X.s_0.heap.get? a = none := by
      cases q : X.s_0.heap.get? a with
      | none => rfl
      | some o =>
        obtain ⟨o', y⟩ := J.base.there a o q (by rw [hex]; exact fun y => nomatch y)
        rw [gone] at y
        cases y
    have npn : ∀ p ∈ X.pn ++ pins, p.1 ≠ a := fun p hp y => by
      have q := (J.pin p hp).1
      rw [y, gone] at q
      cases q
    refine wpAny_handleBy_cons (codeAny_handlers_test ?_) (fun y => nomatch y)
    have T3 := suiteT (track J3 at3 z3 f3 na nL n0 npn) a
    have ty : PySem.W.Looks (model X.prog X.w) h3 (typeOf (.ref a)) cls := fun _ _ _ _ k q => wpAny_typeOf_ref (k _ _ at3) (by rw [z3.1]; exact q)
    have asked := (PySem.W.exm_one (M := model X.prog X.w) J3.kIn ty yes)
    have name : ∀ {Q E : Value → Shared → Prop}, Q c { s' with heap := h3 } → wpAny (model X.prog X.w) (X.A.mark (some (.ref a))) (eval (.Name x np) X.env) Q E { s' with heap := h3 } := by
      intro Q E q
      obtain ⟨g1, g2, g3 | ⟨g3, g4, g5⟩⟩ := hc
      · exact ld_glob T3 g1 g3 q g2
      · exact ld_blt T3 g1 g3 g4 q g5 g2
    refine name (asked.here (codeAny_handlers_suite_as ?_))
    refine HandSPX.lands_againZ g3 fun h4 g4 up4 => ?_
    have J4 : Inv X pins σ' H' { s' with heap := h4 } := J.landed nb g4.1 ((up.trans up3).trans up4) os ag
    obtain ⟨o4, v4, at4, z4, f4⟩ := g4.there
    refine store_ok (X := X.suite a (X.pn ++ pins)) (v := .ref a) (suiteT (track J4 at4 z4 f4 na nL n0 npn) a) hN hi (.inl hl) rfl (fun s5 S5 => ?_) (.inr hl)
    refine wpAny_mono ((hu a (X.pn ++ pins)).run [] s5 _ _ _ S5 (go a na)) ?_ (fun _ _ y => y.elim)
    intro fl s6 z
    have out : ∀ {τ : St} {G : Hp} {Q : Shared → Prop}, Inv (X.suite a (X.pn ++ pins)) [] τ G s6 → (∀ s7, Inv X pins (τ.set i none) G s7 → Q s7) →
        wpAny (model X.prog X.w) X.A (do bindName X.env n .none; unbindBehindTheSuite X.env n pos') (fun _ s7 => Q s7) X.xe s6 :=
      fun S6 q => gone_ok (unsuiteT ok S6) hN hi hl q
    cases fl with
    | next => exact let ⟨τ, G, S6, r⟩ := z; out S6 fun s7 J7 => ⟨_, _, J7, r⟩
    | brk => exact let ⟨τ, G, S6, r⟩ := z; out S6 fun s7 J7 => ⟨_, _, J7, r⟩
    | cont => exact let ⟨τ, G, S6, r⟩ := z; out S6 fun s7 J7 => ⟨_, _, J7, r⟩
    | ret u => exact let ⟨v, τ, G, S6, r1, r2⟩ := z; out S6 fun s7 J7 => ⟨v, _, _, J7, r1, r2⟩
end
/-! ### what is known of it: its class, its field -/
/-- at a: a caught exception of the class at C, its dict at d, with the one field `value` -/
def CauAt (H : Hp) (C a d : Addr) (v : V) : Prop := H a = some (exq a (.ref C) (some d)) ∧ H d = some (.xd [("value", v)])
theorem CauAt.keeps {H H' : Hp} {C a d : Addr} {v : V} (h : CauAt H C a d v) (k : ∀ b o, H b = some o → (∀ ps, o ≠ .tbl ps) → H' b = some o) : CauAt H' C a d v :=
  ⟨k _ _ h.1 (fun _ z => by cases (show HO.ext _ = HO.tbl _ from z)), k _ _ h.2 (fun _ z => by cases z)⟩
theorem CauAt.same {H H' : Hp} {C a d : Addr} {v : V} (h : CauAt H C a d v) (k : Same H H') : CauAt H' C a d v := h.keeps fun b o e _ => k b o e
section
variable {X : Cx} {e : Expr} {t : TE} {pos : Pos}
/-- e.value -/
def tCauV (K : PySem.W.Frag) (t : TE) : TE := fun σ H Q => t σ H fun x H1 => ∃ a C d v fI, x = .ref a ∧ ErC K C fI ∧ CauAt H1 C a d v ∧ Q v H1
theorem pe_cauV (he : PE X e t) (hb : attributeBase e "value" X.env (eval e X.env) = eval e X.env := by rfl) : PE X (.Attribute e "value" pos) (tCauV X.K t) := by
  constructor
  intro pins s σ H Q I want
  refine attr_of hb (thn (he.run pins s σ H _ I want) ?_)
  rintro u s1 ⟨x, H1, I1, rx, a, C, d, v, fI, rfl, T, ⟨ea, ed⟩, q⟩
  cases (show u = Value.ref a from rx)
  obtain ⟨oe, vs, ho, hz, hf⟩ := exq_at I1.hok ea
  obtain ⟨mA, hns, rel⟩ : ObjOk X.prog X.w H1 s1.heap d (.xd [("value", v)]) := I1.hok d _ ed
  obtain ⟨od, hod, hl⟩ := lookIn_ns hns
  obtain ⟨u, hu, ru⟩ := RelO.some_of (v := v) (o := mA "value") (by
    have := rel "value"
    rw [lookup_put, if_pos rfl] at this
    exact this)
  have J : PySem.W.InstAt s1.heap a oe C (some od) := ⟨ho, hz.1, by unfold PySem.W.notCls; rw [hf] <;> rfl, by rw [hz.2]; exact hod⟩
  exact HandSPX.exc_get I1.kIn J T.ga T.gg T.oex.exC (PySem.W.findObj_own T.hd T.noV rfl (by rw [hl, hu])) (handed_of ru) ⟨v, H1, I1.tok _, ru, q⟩
/-- isinstance(e, D) -/
def rCauIs (K : PySem.W.Frag) : List V → Hp → VK → Prop := fun xs H Q => ∃ (a C d fI : Addr) (v c : V) (u : Value) (b : Bool), xs = [.ref a, c] ∧ ErC K C fI ∧ ErK K fI ∧ CauAt H C a d v ∧ ClsV c u ∧ PySem.W.kitOne K (.ref C) u = some b ∧ Q (.bl b) H
theorem call_cauIs : CallR X (.builtin "isinstance") (rCauIs X.K) := by
  intro pins s σ H xs us Q I r h
  obtain ⟨a, C, d, fI, v, c, u, b, rfl, T, TK, ⟨ea, ed⟩, hc, hk, q⟩ := h
  obtain ⟨u1, u2, rfl, r1, r2⟩ := vals2 r
  have e2 := hc.eq r2
  subst e2
  cases (show u1 = Value.ref a from r1)
  obtain ⟨oe, vs, ho, hz, hf⟩ := exq_at I.hok ea
  obtain ⟨mA, hns, rel⟩ : ObjOk X.prog X.w H s.heap d (.xd [("value", v)]) := I.hok d _ ed
  obtain ⟨od, hod, _⟩ := lookIn_ns hns
  have J : PySem.W.InstAt s.heap a oe C (some od) := ⟨ho, hz.1, by unfold PySem.W.notCls; rw [hf] <;> rfl, by rw [hz.2]; exact hod⟩
  have hcl : (PySem.W.clsIn X.K C).isSome = true := by
    have := T.hd
    unfold PySem.W.hasDictIn at this
    cases z : PySem.W.clsIn X.K C with
    | none => rw [z] at this; simp at this
    | some _ => rfl
  exact PySem.W.kia_one (PySem.W.kitx_exc hcl T.ga T.gg T.oex.exC T.cl TK.cg TK.ct T.ob) I.kIn J hk (fun z => nomatch z) fun tk => ⟨.bl b, H, I.tok tk, rfl, q⟩
end
end Lk
set_option Elab.async false
set_option linter.all false
set_option maxRecDepth 100000
set_option maxHeartbeats 1500000
set_option pp.maxSteps 1200
set_option pp.deepTerms false
namespace K6
open PySem PySem.Spec PyProof.Rows L2 Lk
abbrev sInit : Stmt := inClass (top 1) 0
abbrev sIsSure : Stmt := top 61
abbrev sIsOpen : Stmt := top 62
abbrev sShows : Stmt := top 58
theorem fm_rowsR (q : List Str → Bool) : ∀ zs : List (V × List Str), (zs.filterMap fun z => if q z.2 = true then some z.1 else none) = (zs.filter fun z => q z.2).map (·.1)
  | [] => rfl
  | z :: zs => by
    have ih := fm_rowsR q zs
    rw [List.filterMap_cons]
    by_cases h : q z.2 = true
    · rw [if_pos h, List.filter_cons_of_pos (p := fun z : V × List Str => q z.2) h, List.map_cons, ih]
    · rw [if_neg h, List.filter_cons_of_neg (p := fun z : V × List Str => q z.2) h, ih]
theorem paired_of {α β : Type} {R : α → β → Prop} : ∀ {zs : List (α × β)}, (∀ z ∈ zs, R z.1 z.2) → Paired R (zs.map (·.1)) (zs.map (·.2))
  | [], _ => .nil
  | z :: zs, h => .cons (h z List.mem_cons_self) (paired_of fun y hy => h y (List.mem_cons_of_mem _ hy))
theorem leastF_congr {p q : List Str → Bool} {rws : List (List Str)} (h : ∀ r ∈ rws, p r = q r) : leastF p rws = leastF q rws := by
  unfold leastF
  generalize ([] : List (List Str)) = kept
  induction rws generalizing kept with
  | nil => rfl
  | cons r rws ih =>
    rw [List.foldl_cons, List.foldl_cons]
    have e : stepF p kept r = stepF q kept r := by unfold stepF; rw [h r List.mem_cons_self]
    rw [e]
    exact ih (fun x hx => h x (List.mem_cons_of_mem _ hx)) _
theorem leastF_mem {p : List Str → Bool} {rws : List (List Str)} : ∀ r ∈ leastF p rws, r ∈ rws := by
  unfold leastF
  have : ∀ (rws kept : List (List Str)), ∀ r ∈ rws.foldl (stepF p) kept, r ∈ kept ∨ r ∈ rws := by
    intro rws
    induction rws with
    | nil => exact fun kept r h => .inl h
    | cons x rws ih =>
      intro kept r h
      rw [List.foldl_cons] at h
      rcases ih _ r h with h | h
      · unfold stepF at h
        split at h
        · rcases List.mem_append.mp h with h | h
          · exact .inl h
          · exact .inr (by rw [List.mem_singleton.mp h]; exact List.mem_cons_self)
        · exact .inl h
      · exact .inr (List.mem_cons_of_mem _ h)
  intro r h
  rcases this rws [] r h with h | h
  · cases h
  · exact h
theorem stepF_len1 (p : List Str → Bool) : ∀ (rws kept : List (List Str)), (rws.foldl (stepF p) kept).length ≤ kept.length + rws.length
  | [], kept => Nat.le_refl _
  | r :: rws, kept => by
    rw [List.foldl_cons, List.length_cons]
    have h1 := stepF_len1 p rws (stepF p kept r)
    have h2 := stepF_len p kept r
    omega
theorem leastF_len (p : List Str → Bool) (rws : List (List Str)) : (leastF p rws).length ≤ rws.length := by
  have := stepF_len1 p rws []
  simpa [leastF] using this
theorem eqvT_rows (rows : List (List Str)) : PyData.eqv (.tuple (rows.map fun r => PyData.tuple (strsD r))) (.tuple []) = decide (rows = []) := by
  cases rows with
  | nil => simp [PyData.eqv, PyData.eqvAll]
  | cons r rows => simp [PyData.eqv, PyData.eqvAll]
theorem sure_none {L : Lore} {rws : List (List Str)} (ok : LoreOk L) {n : Nat} (lo : LotsOk (L.kps.map (·.1)) rws) : leastF (fun r => sureL L r n) rws = [] ↔ sureL L (L.kps.map (·.1)) n = false := by
  rw [leastF_none]
  constructor
  · intro h
    exact h _ (lots_has lo ok.kn (List.Sublist.refl _))
  · intro h r hr
    cases hs : sureL L r n with
    | false => rfl
    | true =>
      have := sure_mono (fun z hz => (lots_sub lo hr).subset hz) hs
      rw [h] at this
      cases this
section
variable {P : Program} {w : World} {K : PySem.W.Frag} {mg : Str → Option Value} {base : Heap} {f : Addr} {fd : FuncData}
/-! ### is_told -/
def spIsTold : Sp := fun vs H Q _ => ∃ (t : Addr) (xs : List V) (u wd : Str) (n : Int), vs = [.ref t, .str wd, .int n] ∧ H t = some (.tup (.str u :: xs)) ∧ Q (.bl (decide ((xs.length : Int) + 1 = n) && decide (u = wd))) H
theorem scIsTold : FnScope ["value", "word", "many"] ["value", "word", "many"] (defScope sIsTold) := ⟨rfl, rfl, rfl, by decide +kernel, rfl, by decide +kernel, by decide +kernel⟩
theorem ok_isTold {fR : Addr} {fdR : FuncData} (F : Fun K "is_told" "is_told" sIsTold f fd) (T : Bl mg) (Cc : Cn mg) (FR : Fun K "is_row" "is_row" sIsRow fR fdR) (bR : Binds K fdR ["value", "many"] []) (mR : mg "is_row" = some (.ref fR)) : FnOk P w K mg base CX0 2 f fd ["value", "word", "many"] spIsTold := by
  have GR : FnOk P w K mg base CX0 1 fR fdR ["value", "many"] spIsRow := ok_isRow FR T Cc
  refine F.ok scIsTold (fun vs H Q E h => ?_) (fun cdv A outer s H vs Q E hr h => ?_)
  · obtain ⟨t, xs, u, wd, n, rfl, _⟩ := h
    rfl
  · obtain ⟨t, xs, u, wd, n, rfl, ht, k⟩ := h
    refine ⟨_, pss_one (ps_ret (pe_and (pe_call GR hr (by rfl) mR FR.kp bR .nil pass0 (pa_cons (pv 0) (pa_cons (pv 2) pa_nil))) (pe_one (pe_cmpR op_eq (pe_ix ix_tup (pv 0) pe_int (fun _ _ => rfl)) (pv 1) (nomark _))))), ?_⟩
    refine ⟨_, rfl, _, rfl, t, _, n, rfl, ht, _, rfl, ?_⟩
    by_cases h : (xs.length : Int) + 1 = n
    · have h1 : decide (V.int (V.str u :: xs).length = V.int n) = true := decide_eq_true (by rw [← h]; rfl)
      refine iteA h1 ⟨_, rfl, t, _, _, _, rfl, rfl, SqT.of ht, at0 rfl, _, rfl, rfl, ?_⟩
      rw [decide_eq_true h, Bool.true_and] at k
      have e : decide (V.str u = V.str wd) = decide (u = wd) := by
        by_cases q : u = wd
        · rw [q]
          simp
        · simp [q]
      rw [e]
      exact k
    · have h1 : decide (V.int (V.str u :: xs).length = V.int n) = false := decide_eq_false fun e => h (by
        have := (V.int.inj e)
        rw [← this]
        rfl)
      rw [decide_eq_false h, Bool.false_and] at k
      exact iteB h1 k
theorem scInit : FnScope ["self", "value"] ["self", "value"] (defScope sInit) := ⟨rfl, rfl, rfl, by decide +kernel, rfl, by decide +kernel, by decide +kernel⟩
theorem ok_init {fI : Addr} {fdI : FuncData} (F : Fun K "__init__" "LotError.__init__" sInit fI fdI) : FnOk P w K mg base CX0 1 fI fdI ["self", "value"] (spInitV K fI) := by
  refine F.ok scInit (fun vs H Q E h => ?_) (fun cdv A outer s H vs Q E hr h => ?_)
  · obtain ⟨a, C, v, rfl, _⟩ := h
    rfl
  · obtain ⟨a, C, v, rfl, T, ha, k⟩ := h
    refine ⟨_, pss_one (ps_ost (pv 0) (pv 1)), ?_⟩
    exact ⟨_, rfl, _, rfl, a, C, rfl, T.oex, T.noV, .inl ⟨ha, fun d hd nd => k d hd nd⟩⟩
/-- an own error with `value` v is made and raised: what is wished of it -/
theorem made_oex {CU fI : Addr} {v : V} {H : Hp} {Q : XK} (T : ErC K CU fI) (k : ∀ d H', Same H H' → H d = none → H' d = some (.xd [("value", v)]) → Q (.ref CU) (some d) H') :
    [v].length ≤ 1000 ∧ ∀ a, H a = none → spInitV K fI (.ref a :: ([v] ++ [])) (upd H a (exo a CU none))
      (fun x H2 => x = .non ∧ ∃ (d : Addr) (fs : List (Str × V)), H2 a = some (exo a CU (some d)) ∧ H2 d = some (exd d fs) ∧ H d = none ∧ Q (.ref CU) (some d) (upd (del H2 a) d (.xd fs))) (fun _ _ _ => False) := by
  refine ⟨by show 1 ≤ 1000; decide, fun a na => ⟨a, CU, v, rfl, T, upd_same, fun d hd nd => ⟨rfl, d, [("value", v)], upd_same, by rw [upd_ne nd, upd_same], ?_, ?_⟩⟩⟩
  · rw [upd_ne nd] at hd
    exact hd
  · rw [upd_ne nd] at hd
    refine k d _ (fun b o e => ?_) hd upd_same
    have nb : b ≠ a := ne_of_none e na
    have nbd : b ≠ d := ne_of_none e hd
    rw [upd_ne nbd, del_ne nb, upd_ne nb, upd_ne nbd, upd_ne nb]
    exact e
/-! ### is_sure -/
def spIsSure (C CS : Addr) : Sp := fun vs H Q _ => ∃ (x t : Addr) (L : Lore) (ys : List Str) (n : Nat), vs = [.ref x, .ref t, .int (n : Int)] ∧ ShAt H C CS x L ∧ LoreOk L ∧ LotE H t ys ∧ ys.Sublist (L.kps.map (·.1)) ∧ n ≤ 3 ∧ ∀ H', Same H H' → Q (.bl (sureL L ys n)) H'
theorem scIsSure : FnScope ["shelf", "lot", "bound"] ["shelf", "lot", "bound"] (defScope sIsSure) := ⟨rfl, rfl, rfl, by decide +kernel, rfl, by decide +kernel, by decide +kernel⟩
theorem ok_isSure {C CS f1 : Addr} {fd1 : FuncData} (F : Fun K "is_sure" "is_sure" sIsSure f fd)
    (G1 : FnOk P w K mg base CX0 5 f1 fd1 ["shelf", "lot", "bound"] (spDoubted C CS)) (a1 : At K mg "first_doubted" f1 fd1 ["shelf", "lot", "bound"]) :
    FnOk P w K mg base CX0 6 f fd ["shelf", "lot", "bound"] (spIsSure C CS) := by
  refine F.ok scIsSure (fun vs H Q E h => ?_) (fun cdv A outer s H vs Q E hr h => ?_)
  · obtain ⟨x, t, L, ys, n, rfl, _⟩ := h
    rfl
  · obtain ⟨x, t, L, ys, n, rfl, sh, ok, ht, sub, n3, k⟩ := h
    refine ⟨_, pss_one (ps_ret (pe_cmp (pc_isN (pe_call G1 hr (by rfl) a1.m a1.kp a1.b .nil pass0 (pa_cons (pv 0) (pa_cons (pv 1) (pa_cons (pv 2) pa_nil))))))), ?_⟩
    refine ⟨_, rfl, _, rfl, _, rfl, x, t, L, ys, n, rfl, sh, ok, ht, sub, n3, fun H2 s2 hall => ?_, fun q row H2 s2 hq rs hd => ?_⟩
    · have := k H2 s2
      rw [dub_sure ok sub hall] at this
      exact this
    · have := k H2 s2
      have e : sureL L ys n = false := by
        cases h : sureL L ys n with
        | false => rfl
        | true =>
          rw [sure_dub ok sub h rs] at hd
          cases hd
      rw [e] at this
      exact this
/-! ### sure_lots -/
def spSureLots (C CS : Addr) : Sp := fun vs H Q _ => ∃ (x : Addr) (L : Lore) (n : Nat), vs = [.ref x, .int (n : Int)] ∧ ShAt H C CS x L ∧ LoreOk L ∧ n ≤ 3 ∧
  ∀ D us rws H', Same H H' → H' D = some (.lst us) → Paired (RelT H') us (rws.filter fun r => sureL L r n) → LotsOk (L.kps.map (·.1)) rws → Q (.ref D) H'
/-! ### overruling -/
def spOverruling (C CS CN : Addr) : Sp := fun vs H Q E => ∃ (x : Addr) (L : Lore) (n : Nat), vs = [.ref x, .int (n : Int)] ∧ ShAt H C CS x L ∧ LoreOk L ∧ n ≤ 3 ∧
  (sureL L (L.kps.map (·.1)) n = false → ∀ d H', Same H H' → H d = none → H' d = some (.xd [("value", .int (n : Int))]) → E (.ref CN) (some d) H') ∧
  (sureL L (L.kps.map (·.1)) n = true → ∀ q us rws H', Same H H' → H' q = some (.tup us) → Paired (RelT H') us (leastF (fun r => sureL L r n) rws) → LotsOk (L.kps.map (·.1)) rws → Q (.ref q) H')
end
end K6
set_option Elab.async false
set_option linter.all false
set_option maxRecDepth 100000
set_option maxHeartbeats 1500000
set_option pp.maxSteps 1200
set_option pp.deepTerms false
namespace K6
open PySem PySem.Spec PyProof.Rows L2 Lk
section
variable {P : Program} {w : World} {K : PySem.W.Frag} {mg : Str → Option Value} {base : Heap} {f : Addr} {fd : FuncData}
/-! ### is_open -/
def spIsOpen (C CS : Addr) : Sp := fun vs H Q _ => ∃ (x t d : Addr) (L : Lore) (ys row : List Str) (v u : Vec) (n : Nat), vs = [.ref x, .ref t, .int (n : Int), .str (stv v), .str (stv u), .ref d] ∧ ShAt H C CS x L ∧ LoreOk L ∧ LotE H t ys ∧ ys.Sublist (L.kps.map (·.1)) ∧ LotAt H d row ∧ row.Sublist (L.kps.map (·.1)) ∧
  v.length = L.parts.length ∧ u.length = L.parts.length ∧ v ≠ u ∧ (row.all fun y => decide (y ∈ ys)) = true ∧ row.length ≤ 2 * n ∧ n ≤ 3 ∧ (∀ k ∈ L.kps, k.1 ∈ lessL ys row → ansV L k v = ansV L k u) ∧ ∀ H', Same H H' → Q (.bl true) H'
abbrev nmOpen : List Str := ["shelf", "lot", "bound", "record", "other", "doubted", "rest", "keeper"]
theorem scIsOpen : FnScope nmOpen ["shelf", "lot", "bound", "record", "other", "doubted"] (defScope sIsOpen) := ⟨rfl, rfl, rfl, by decide +kernel, rfl, by decide +kernel, by decide +kernel⟩
theorem ok_isOpen {C CS fS f1 f2 f3 f4 f5 : Addr} {fd1 fd2 fd3 fd4 fd5 : FuncData} (F : Fun K "is_open" "is_open" sIsOpen f fd) (T : Bl mg) (SC : ShC K CS fS)
    (G1 : FnOk P w K mg base CX0 2 f1 fd1 ["shelf", "value"] (spIsRecord C CS)) (a1 : At K mg "is_record" f1 fd1 ["shelf", "value"])
    (G2 : FnOk P w K mg base CX0 1 f2 fd2 ["circle", "value"] (spIsLot C)) (a2 : At K mg "is_lot" f2 fd2 ["circle", "value"])
    (G3 : FnOk P w K mg base CX0 1 f3 fd3 ["lot", "other"] (spWithin K)) (a3 : At K mg "is_within" f3 fd3 ["lot", "other"])
    (G4 : FnOk P w K mg base CX0 1 f4 fd4 ["lot", "other"] (spPLess K)) (a4 : At K mg "less" f4 fd4 ["lot", "other"])
    (G5 : FnOk P w K mg base CX0 4 f5 fd5 ["shelf", "keeper", "record"] (spAnswer C CS)) (a5 : At K mg "answer" f5 fd5 ["shelf", "keeper", "record"]) :
    FnOk P w K mg base CX0 5 f fd ["shelf", "lot", "bound", "record", "other", "doubted"] (spIsOpen C CS) := by
  refine F.ok scIsOpen (fun vs H Q E h => ?_) (fun cdv A outer s H vs Q E hr h => ?_)
  · obtain ⟨x, t, d, L, ys, row, v, u, n, rfl, _⟩ := h
    rfl
  · obtain ⟨x, t, d, L, ys, row, v, u, n, rfl, sh, ok, et, ysub, ed, rsub, vl, ul, ne, hin, rl, n3, same, k⟩ := h
    have nd := scIsOpen.nd
    have hr1 : Room 1 _ := hr.mono (by decide)
    have hr2 : Room 2 _ := hr.mono (by decide)
    refine ⟨_, pss_cons (ps_if (PW.pt (pw_or (pt_not (pt_val (pe_call G1 hr2 (by rfl) a1.m a1.kp a1.b .nil pass0 (pa_cons (pv 0) (pa_cons (pv 3) pa_nil))))) (pw_or (pt_not (pt_val (pe_call G1 hr2 (by rfl) a1.m a1.kp a1.b .nil pass0 (pa_cons (pv 0) (pa_cons (pv 4) pa_nil))))) (pw_or1 (pt_cmpR op_eq (pv 3) (pv 4) (nomark _)))))) pss_no pss_nil)
      (pss_cons (ps_if (PW.pt (pw_or (pt_not (pt_val (pe_call G2 hr1 (by rfl) a2.m a2.kp a2.b .nil pass0 (pa_cons (pe_fld (pv 0) rfl) (pa_cons (pv 5) pa_nil))))) (pw_or (pt_not (pt_val (pe_call G3 hr1 (by rfl) a3.m a3.kp a3.b .nil pass0 (pa_cons (pv 5) (pa_cons (pv 1) pa_nil))))) (pw_or1 (pt_cmpR op_gt (pe_callB call_len_seq (by rfl) T.len PySem.boot_len (pa_cons (pv 5) pa_nil)) (pe_op op_mul pe_int (pv 2)) (nomark _)))))) pss_no pss_nil)
      (pss_cons (ps_set (i := 6) nd rfl (.inl rfl) (pe_call G4 hr1 (by rfl) a4.m a4.kp a4.b .nil pass0 (pa_cons (pv 1) (pa_cons (pv 5) pa_nil))))
      (pss_one (ps_ret (pe_callB (cr_all rfl) (by rfl) T.all boot_all (pa_cons (pe_lc (own := [("keeper", 7)]) (g := gName 7) (tt := tYes) (te := tOp rEq (tCall (spAnswer C CS) [] E0 (tCons (tVar 0) (tCons (tVar 7) (tCons (tVar 3) tNil)))) (tCall (spAnswer C CS) [] E0 (tCons (tVar 0) (tCons (tVar 7) (tCons (tVar 4) tNil))))) rfl nd (pi_tup (pv 6))
          (blkOk_by (N := nmOpen) (sc := defScope sIsOpen) (by decide +kernel)) (fun _ _ _ _ _ => pg_name (i := 7) nd rfl (.inl rfl)) (fun _ _ _ _ _ => pts_nil)
          (fun _ _ _ _ _ => pe_cmpR op_eq (pe_call G5 hr (by rfl) a5.m a5.kp a5.b .nil pass0 (pa_cons (pv 0) (pa_cons (pv 7) (pa_cons (pv 3) pa_nil)))) (pe_call G5 hr (by rfl) a5.m a5.kp a5.b .nil pass0 (pa_cons (pv 0) (pa_cons (pv 7) (pa_cons (pv 4) pa_nil)))) (nomark _))) pa_nil)))))), ?_⟩
    have k6 := ok.k6
    have y6 : ys.length ≤ 6 := Nat.le_trans ysub.length_le (by rw [List.length_map]; exact k6)
    have r6 : row.length ≤ 6 := Nat.le_trans rsub.length_le (by rw [List.length_map]; exact k6)
    refine ⟨_, rfl, _, rfl, x, L, stv v, rfl, sh, ok, recOk_stv vl, fun H1 s1 => ⟨_, rfl, iteB rfl ?_⟩⟩
    refine ⟨_, rfl, _, rfl, x, L, stv u, rfl, sh.same s1, ok, recOk_stv ul, fun H2 s2 => ⟨_, rfl, iteB rfl ?_⟩⟩
    refine ⟨_, rfl, _, rfl, rfl, _, rfl, ?_⟩
    rw [strDec, decide_eq_false ne]
    refine iteB rfl ?_
    have s12 := s1.trans s2
    have sh2 := sh.same s12
    obtain ⟨dx, fs, hx, sf, _⟩ := id sh2
    obtain ⟨c, lc, ca⟩ := sf.circle
    refine ⟨_, rfl, x, CS, dx, fs, .ref c, rfl, hx, SC.cls, SC.circle, lc, _, rfl, c, d, _, row, rfl, ca, .inl (s12 _ _ ed), rsub, nmOk ok, fun H3 s3 => ⟨_, rfl, iteB rfl ?_⟩⟩
    have s13 := s12.trans s3
    refine ⟨_, rfl, _, rfl, d, t, row, ys, rfl, .inr (SqT.of (s13 _ _ ed)), .inr (et.same s13).sq, by omega, fun H4 s4 => ⟨_, rfl, ?_⟩⟩
    rw [hin]
    refine iteB rfl ?_
    have s14 := s13.trans s4
    refine ⟨_, rfl, d, _, rfl, .inr (SqT.of (s14 _ _ ed)), _, rfl, _, _, rfl, rfl, .inl ⟨by decide, by decide⟩, _, _, rfl, rfl, _, rfl, ?_⟩
    rw [List.length_map]
    refine iteB (decide_eq_false (by omega)) ?_
    refine ⟨_, rfl, _, rfl, t, d, ys, row, rfl, .inr (et.same s14).sq, .inr (SqT.of (s14 _ _ ed)), by omega, fun p H5 s5 np ep => ?_⟩
    have ep : H5 p = some (.tup ((lessL ys row).map V.str)) := ep
    have s15 := s14.trans s5
    have sh5 := sh.same s15
    have ll : (lessL ys row).length ≤ 6 := Nat.le_trans (List.length_filter_le _ _) y6
    refine ⟨_, rfl, p, rfl, ⟨_, SqT.of ep⟩, all_over (walk_tup (a := p) (xs := (lessL ys row).map V.str)) (lessL ys row) V.str (fun _ => true) rfl (by omega) (fun H s => sqT_same s (SqT.of ep)) ?_ ?_⟩
    · rintro i b H6 R hb s6 kk
      have bm := List.mem_of_getElem? hb
      obtain ⟨kq, hkq, rfl⟩ := List.mem_map.mp (ysub.subset (List.mem_filter.mp bm).1)
      obtain ⟨j, hj⟩ := List.mem_iff_getElem?.mp hkq
      have sh6 := sh5.same s6
      refine ⟨rfl, _, rfl, _, rfl, _, rfl, x, L, j, kq, stv v, rfl, sh6, ok, hj, recOk_stv vl, fun H7 s7 => ?_⟩
      refine ⟨_, rfl, _, rfl, _, rfl, x, L, j, kq, stv u, rfl, sh6.same s7, ok, hj, recOk_stv ul, fun H8 s8 => ⟨rfl, ?_⟩⟩
      rw [answer_stv vl, answer_stv ul, strDec, decide_eq_true (same kq hkq bm)]
      exact kk _ (s7.trans s8)
    · intro H6 s6
      have e : (lessL ys row).all (fun _ => true) = true := List.all_eq_true.mpr fun _ _ => rfl
      rw [e]
      exact k _ (s15.trans s6)
/-! ### shows_overruled -/
def spShows (C CS : Addr) : Sp := fun vs H Q _ => ∃ (x t q : Addr) (L : Lore) (ys : List Str) (n : Nat), vs = [.ref x, .ref t, .int (n : Int), .ref q] ∧ ShAt H C CS x L ∧ LoreOk L ∧ LotE H t ys ∧ ys.Sublist (L.kps.map (·.1)) ∧ n ≤ 3 ∧ OverAt H q L ys n ∧ ∀ H', Same H H' → Q (.bl true) H'
theorem scShows : FnScope ["shelf", "lot", "bound", "value"] ["shelf", "lot", "bound", "value"] (defScope sShows) := ⟨rfl, rfl, rfl, by decide +kernel, rfl, by decide +kernel, by decide +kernel⟩
theorem ok_shows {C CS fS f1 f2 f3 f4 f5 : Addr} {fd1 fd2 fd3 fd4 fd5 : FuncData} (F : Fun K "shows_overruled" "shows_overruled" sShows f fd) (SC : ShC K CS fS)
    (G1 : FnOk P w K mg base CX0 2 f1 fd1 ["circle", "value"] (spRefLot C)) (a1 : At K mg "refuse_lot" f1 fd1 ["circle", "value"])
    (G2 : FnOk P w K mg base CX0 3 f2 fd2 ["value"] spRefBound) (a2 : At K mg "refuse_bound" f2 fd2 ["value"])
    (G3 : FnOk P w K mg base CX0 2 f3 fd3 ["value", "word", "many"] spIsTold) (a3 : At K mg "is_told" f3 fd3 ["value", "word", "many"])
    (G4 : FnOk P w K mg base CX0 5 f4 fd4 ["shelf", "lot", "bound", "record", "other", "doubted"] (spIsOpen C CS)) (a4 : At K mg "is_open" f4 fd4 ["shelf", "lot", "bound", "record", "other", "doubted"])
    (G5 : FnOk P w K mg base CX0 6 f5 fd5 ["shelf", "lot", "bound"] (spIsSure C CS)) (a5 : At K mg "is_sure" f5 fd5 ["shelf", "lot", "bound"]) :
    FnOk P w K mg base CX0 7 f fd ["shelf", "lot", "bound", "value"] (spShows C CS) := by
  refine F.ok scShows (fun vs H Q E h => ?_) (fun cdv A outer s H vs Q E hr h => ?_)
  · obtain ⟨x, t, q, L, ys, n, rfl, _⟩ := h
    rfl
  · obtain ⟨x, t, q, L, ys, n, rfl, sh, ok, et, ysub, n3, ov, k⟩ := h
    have nd := scShows.nd
    have hu64 := room64 hr
    have hr2 : Room 2 _ := hr.mono (by decide)
    have hr3 : Room 3 _ := hr.mono (by decide)
    have hr5 : Room 5 _ := hr.mono (by decide)
    refine ⟨_, pss_cons (ps_expr (pe_call G1 hr2 (by rfl) a1.m a1.kp a1.b .nil pass0 (pa_cons (pe_fld (pv 0) rfl) (pa_cons (pv 1) pa_nil)))) (pss_cons (ps_expr (pe_call G2 hr3 (by rfl) a2.m a2.kp a2.b .nil pass0 (pa_cons (pv 2) pa_nil)))
      (pss_cons (ps_if (pt_val (pe_call G3 hr2 (by rfl) a3.m a3.kp a3.b .nil pass0 (pa_cons (pv 3) (pa_cons pe_str (pa_cons pe_int pa_nil)))))
          (pss_one (ps_ret (pe_call G4 hr5 (by rfl) a4.m a4.kp a4.b .nil pass0 (pa_cons (pv 0) (pa_cons (pv 1) (pa_cons (pv 2) (pa_cons (pe_ix ix_tup (pv 3) pe_int (fun _ _ => rfl)) (pa_cons (pe_ix ix_tup (pv 3) pe_int (fun _ _ => rfl)) (pa_cons (pe_ix ix_tup (pv 3) pe_int (fun _ _ => rfl)) pa_nil))))))))) pss_nil)
      (pss_one (ps_ret (pe_and (pe_cmpR (op_eqD hu64) (pv 3) (pe_tup (pa_cons pe_str pa_nil)) (nomark _)) (pe_one (pe_call G5 hr (by rfl) a5.m a5.kp a5.b .nil pass0 (pa_cons (pv 0) (pa_cons (pv 1) (pa_cons (pv 2) pa_nil)))))))))), ?_⟩
    obtain ⟨dx, fs, hx, sf, _⟩ := id sh
    obtain ⟨c, lc, ca⟩ := sf.circle
    refine ⟨_, rfl, x, CS, dx, fs, .ref c, rfl, hx, SC.cls, SC.circle, lc, _, rfl, c, t, _, ys, rfl, ca, et, ysub, nmOk ok, fun H1 s1 => ?_⟩
    refine ⟨_, rfl, n, rfl, n3, ?_⟩
    rcases ov with ⟨eq, hall⟩ | ⟨v, d, row, ks, eq, ed, vl, rs, hdub, ks1, ks2, hlost⟩
    · refine ⟨_, rfl, q, _, _, _, _, rfl, s1 _ _ eq, _, rfl, iteB (by decide) ?_⟩
      refine ⟨_, rfl, few_ok rfl, fun e ne => ?_⟩
      have s2 := same_new (o := HO.tup [.str "sure"]) ne
      have s12 := s1.trans s2
      have nS : Nice (1 * (8 + 1)) 1 (.tuple (strsD ["sure"])) := nice_strs (fun z hz => by
        rw [List.mem_singleton.mp hz]
        decide +kernel) (by decide)
      refine ⟨.tuple (strsD ["sure"]), .tuple (strsD ["sure"]), .tup (SqT.of (s12 _ _ eq)) (dp_strs ["sure"]), .tup (SqT.of upd_same) (dp_strs ["sure"]), nS.shaped (by decide), nS.shaped (by decide), ?_⟩
      rw [nS.eqv]
      refine ⟨_, rfl, iteT ?_⟩
      refine ⟨_, rfl, _, rfl, _, rfl, x, t, L, ys, n, rfl, sh.same s12, ok, et.same s12, ysub, n3, fun H3 s3 => ?_⟩
      rw [dub_sure ok ysub hall]
      exact k _ (s12.trans s3)
    · refine ⟨_, rfl, q, _, _, _, _, rfl, s1 _ _ eq, _, rfl, iteA (by show (decide ((3 : Int) + 1 = 4) && decide (("open" : Str) = "open")) = true; decide +kernel) ?_⟩
      have eq1 := s1 _ _ eq
      obtain ⟨ne, same⟩ := lost_zero hlost
      unfold dubB at hdub
      obtain ⟨d1, d2⟩ := Bool.and_eq_true_iff.mp hdub
      obtain ⟨d2, d3⟩ := Bool.and_eq_true_iff.mp d2
      have d1 := of_decide_eq_true d1
      refine ⟨_, rfl, _, rfl, _, rfl, _, rfl, q, _, _, _, rfl, rfl, SqT.of eq1, atI_nat (j := 1) rfl, _, rfl, q, _, _, _, rfl, rfl, SqT.of eq1, atI_nat (j := 2) rfl, _, rfl, q, _, _, _, rfl, rfl, SqT.of eq1, atI_nat (j := 3) rfl, ?_⟩
      refine ⟨x, t, d, L, ys, row, zv L.parts.length, v, n, rfl, sh.same s1, ok, et.same s1, ysub, s1 _ _ ed, rs, zv_len _, vl, (fun e => ne e.symm), d2, by omega, n3, fun k0 hk0 hl => ?_, fun H' s' => k _ (s1.trans s')⟩
      rw [← ks2] at hl
      obtain ⟨b, hb, e⟩ := List.mem_map.mp hl
      have := kp_one ok (ks1.subset hb) hk0 e
      subst this
      exact (same b hb).symm
end
end K6
set_option Elab.async false
set_option linter.all false
set_option maxRecDepth 100000
set_option maxHeartbeats 1500000
set_option pp.maxSteps 1200
set_option pp.deepTerms false
namespace K6
open PySem PySem.Spec PyProof.Rows L2 Lk
def retLScope (st : Stmt) (i : Nat) : Scope := match (defBody st).getD i (.Pass ⟨0, 0, 0, 0⟩) with
  | .Return (some (.ListComp _ _ sc _)) _ => sc
  | _ => defScope st
/-- all choices of places, the later places in the later half -/
def rowsN : Nat → List (List Nat)
  | 0 => [[]]
  | n + 1 => rowsN n ++ (rowsN n).map (· ++ [n])
theorem rowC_succ (n c : Nat) : rowC (n + 1) c = rowC n c ++ (if c / 2 ^ n % 2 = 1 then [n] else []) := by
  unfold rowC
  rw [List.range_succ, List.filter_append]
  congr 1
  by_cases h : c / 2 ^ n % 2 = 1
  · simp [h]
  · simp [h]
theorem rowsN_eq : ∀ n, rowsN n = (List.range (2 ^ n)).map (rowC n)
  | 0 => by
    show [[]] = (List.range 1).map (rowC 0)
    rfl
  | n + 1 => by
    have e : List.range (2 ^ (n + 1)) = List.range (2 ^ n) ++ (List.range (2 ^ n)).map (2 ^ n + ·) := by
      rw [Nat.pow_succ, Nat.mul_two, List.range_add]
    rw [rowsN, rowsN_eq n, e, List.map_append, List.map_map, List.map_map]
    congr 1
    · refine List.map_congr_left fun c hc => ?_
      have lt := List.mem_range.mp hc
      rw [rowC_succ, Nat.div_eq_of_lt lt]
      simp
    · refine List.map_congr_left fun c hc => ?_
      have lt := List.mem_range.mp hc
      show rowC n c ++ [n] = rowC (n + 1) (2 ^ n + c)
      have d : (2 ^ n + c) / 2 ^ n = 1 := by
        rw [Nat.add_div_left _ (Nat.pow_pos (by decide)), Nat.div_eq_of_lt lt]
      rw [rowC_succ, d]
      have e2 : rowC n (2 ^ n + c) = rowC n c := rowC_congr fun p hp => by
        have : 2 ^ n = 2 ^ p * (2 * 2 ^ (n - p - 1)) := by
          rw [← Nat.mul_assoc, Nat.mul_comm (2 ^ p) 2, Nat.mul_comm 2, ← Nat.pow_succ, ← Nat.pow_add]
          congr 1
          omega
        rw [this, Nat.mul_add_div (Nat.pow_pos (by decide)), Nat.mul_add_mod]
      rw [e2]
      rfl
theorem rowsN_len (n : Nat) : (rowsN n).length = 2 ^ n := by rw [rowsN_eq, List.length_map, List.length_range]
theorem paired_map_eq2 {α β γ : Type} {R : α → β → Prop} {f : α → γ} {g : β → γ} (h : ∀ a b, R a b → f a = g b) : ∀ {xs : List α} {ys : List β}, Paired R xs ys → xs.map f = ys.map g
  | _, _, .nil => rfl
  | _, _, .cons r t => by rw [List.map_cons, List.map_cons, h _ _ r, paired_map_eq2 h t]
theorem paired_mem2 {α β : Type} {R : α → β → Prop} : ∀ {xs : List α} {ys : List β}, Paired R xs ys → ∀ x ∈ xs, ∃ y ∈ ys, R x y
  | _, _, .nil, x, h => by cases h
  | _, _, .cons r t, x, h => by
    rcases List.mem_cons.mp h with rfl | h
    · exact ⟨_, List.mem_cons_self, r⟩
    · obtain ⟨y, h1, h2⟩ := paired_mem2 t x h
      exact ⟨y, List.mem_cons_of_mem _ h1, h2⟩
def RelI (H : Hp) (v : V) (ns : List Nat) : Prop := ∃ t, v = V.ref t ∧ H t = some (.tup ((ns.map fun p : Nat => (p : Int)).map V.int))
theorem RelI.keepP {H H' : Hp} (k : Keep H H') (v : V) (r : List Nat) (h : RelI H v r) : RelI H' v r := by
  obtain ⟨t, e1, e2⟩ := h
  exact ⟨t, e1, k _ _ e2 fun _ z => by cases z⟩
def RelPT (H : Hp) (v : V) (ns : List Nat) : Prop := ∃ t b, v = V.ref t ∧ H t = some (.tup [.int (ns.length : Int), .ref b]) ∧ H b = some (.tup ((ns.map fun p : Nat => (p : Int)).map V.int))
theorem RelPT.inj {H : Hp} {v : V} {ns ms : List Nat} (h : RelPT H v ns) (g : RelPT H v ms) : ns = ms := by
  obtain ⟨t, b, e1, e2, e3⟩ := h
  obtain ⟨t', b', f1, f2, f3⟩ := g
  rw [e1] at f1
  cases f1
  rw [e2] at f2
  injection f2 with f2
  injection f2 with f2
  injection f2 with f4 f5
  injection f5 with f5 _
  injection f5 with f5
  subst f5
  rw [e3] at f3
  injection f3 with f3
  injection f3 with f3
  have := (List.map_inj_right (fun a b h => V.int.inj h)).mp f3
  exact (List.map_inj_right (fun a b h => Int.ofNat.inj h)).mp this
theorem RelPT.keepP {H H' : Hp} (k : Keep H H') (v : V) (r : List Nat) (h : RelPT H v r) : RelPT H' v r := by
  obtain ⟨t, b, e1, e2, e3⟩ := h
  exact ⟨t, b, e1, k _ _ e2 (fun _ z => by cases z), k _ _ e3 fun _ z => by cases z⟩
section
variable {P : Program} {w : World} {K : PySem.W.Frag} {mg : Str → Option Value} {base : Heap} {f : Addr} {fd : FuncData}
def spAllLots (K : PySem.W.Frag) : Sp := fun vs H Q _ => ∃ (n : Addr) (zs : List Str), vs = [.ref n] ∧ SqT K H n (zs.map V.str) ∧ zs.length ≤ 6 ∧
  ∀ (D : Addr) (ts : List V) (rws : List (List Str)) (H' : Hp), Same H H' → H D = none → H' D = some (.lst ts) → Paired (RelT H') ts rws → LotsOk zs rws → Q (.ref D) H'
abbrev nmAL : List Str := ["names", "found", "place", "lot", "ranked", "size"]
def tPlacesL (K : PySem.W.Frag) : TE := fun σ H Q => tLc (iTup K (tVar 3)) (gName 2) tYes (tOp (rIxT K) (tVar 0) (tVar 2)) [2] σ H fun x H1 => kTup K x H1 Q
end
end K6
set_option Elab.async false
set_option linter.all false
set_option maxRecDepth 100000
set_option maxHeartbeats 4000000
set_option pp.maxSteps 1200
set_option pp.deepTerms false
namespace K6
open PySem PySem.Spec PyProof.Rows L2 Lk
abbrev sWith : Stmt := top 83
section
variable {P : Program} {w : World} {K : PySem.W.Frag} {mg : Str → Option Value} {base : Heap} {f : Addr} {fd : FuncData}
/-- the pieces put anew -/
def spWith : Sp := fun vs H Q _ => ∃ (lo pa nm ps : Addr) (x : Addr), vs = [.ref lo, .str "pieces", .ref x] ∧ H lo = some (.dK [(.inr "parts", .ref pa), (.inr "names", .ref nm), (.inr "pieces", .ref ps)]) ∧
  ∀ d H', Same H H' → H d = none → D3 H' d pa nm x → Q (.ref d) H'
theorem scWith : FnScope ["lore", "key", "value", "found"] ["lore", "key", "value"] (defScope sWith) := ⟨rfl, rfl, rfl, by decide +kernel, rfl, by decide +kernel, by decide +kernel⟩
theorem ok_with (F : Fun K "_law_with" "_law_with" sWith f fd) (T : Bl mg) (hD : mg "dict" = none) : FnOk P w K mg base CX0 1 f fd ["lore", "key", "value"] spWith := by
  refine F.ok scWith (fun vs H Q E h => ?_) (fun cdv A outer s H vs Q E hr h => ?_)
  · obtain ⟨lo, pa, nm, ps, x, rfl, _⟩ := h
    rfl
  · obtain ⟨lo, pa, nm, ps, x, rfl, e, k⟩ := h
    have nd := scWith.nd
    have hu := hu_of hr
    refine ⟨_, pss_cons (ps_set (i := 3) nd rfl (.inl rfl) (pe_callTy (call_dictP rfl) (by rfl) hD boot_dict (pa_cons (LiI.pe_listItems rfl (pv 0) (by rfl) T.list boot_list) pa_nil)))
      (pss_cons (ps_asg (pe_tup (pa_cons (pv 2) (pa_cons pe_dnewK pa_nil))) (pg_tup rfl (pgs_cons (pg_sub (pv 3) (pv 1) (set_dict hu)) (pgs_cons (pg_sub (pv 3) pe_str (set_dict hu)) pgs_nil))))
      (pss_one (ps_ret (pv 3)))), ?_⟩
    refine ⟨_, rfl, lo, _, rfl, e, fun H1 p ts s1 np nts pts ep pr => ?_⟩
    refine ⟨p, ts, [(.inr "parts", .ref pa), (.inr "names", .ref nm), (.inr "pieces", .ref ps)], rfl, SqL.of ep, Paired.mapP pr fun t kv h => SqT.of h, fun d nd' => ?_⟩
    refine ⟨_, rfl, fun c nc => ?_⟩
    refine ⟨few_ok rfl, fun t nt => ⟨t, _, rfl, .inl (.inl upd_same), rfl, ?_⟩⟩
    have s2 : Same H1 (upd H1 d (.dK (mergeK [] [(.inr "parts", .ref pa), (.inr "names", .ref nm), (.inr "pieces", .ref ps)]))) := same_new nd'
    have ed : upd H1 d (.dK (mergeK [] [(.inr "parts", .ref pa), (.inr "names", .ref nm), (.inr "pieces", .ref ps)])) d = some (.dK [(.inr "parts", .ref pa), (.inr "names", .ref nm), (.inr "pieces", .ref ps)]) := upd_same
    have ndH : H d = none := Same.free s1 nd'
    generalize upd H1 d (.dK (mergeK [] [(.inr "parts", .ref pa), (.inr "names", .ref nm), (.inr "pieces", .ref ps)])) = H2 at s2 ed nc nt ⊢
    have s3 : Same H2 (upd H2 c (.dK [])) := same_new nc
    have s4 := same_new (o := HO.tup [.ref x, .ref c]) nt
    have ed4 := s4 _ _ (s3 _ _ ed)
    have sA := ((Same.trans s1 s2).trans s3).trans s4
    generalize upd (upd H2 c (.dK [])) t (.tup [.ref x, .ref c]) = H4 at sA ed4 ⊢
    refine ⟨_, _, rfl, _, rfl, _, rfl, d, _, rfl, DPut.k (k := .inr "pieces") ed4 (by rw [sizeLine_eq]; show 3 < _; omega), ?_⟩
    refine ⟨_, _, rfl, _, rfl, d, _, rfl, DPut.k (k := .inr "kept") upd_same (by rw [sizeLine_eq]; show 3 < _; omega), rfl, ?_⟩
    refine ⟨_, rfl, k d _ (fun b o q => ?_) ndH ⟨[(.inr "kept", .ref c)], ?_⟩⟩
    · have nb : b ≠ d := ne_of_none q ndH
      rw [upd_ne nb, upd_ne nb]
      exact sA _ _ q
    · rw [upd_same]
      rfl
end
end K6
set_option Elab.async false
set_option linter.all false
set_option maxRecDepth 100000
set_option maxHeartbeats 4000000
set_option pp.maxSteps 1200
set_option pp.deepTerms false
namespace K6
open PySem PySem.Spec PyProof.Rows L2 Lk
abbrev sThick : Stmt := top 90
/-- a shelf with other pieces -/
def rowsL' (L : Lore) (ps : List Str) (q : List (List Str)) : Lore := ⟨ps, L.kps.map fun k => (k.1, q)⟩
theorem rows_names (L : Lore) (ps : List Str) (q : List (List Str)) : (rowsL' L ps q).kps.map (·.1) = L.kps.map (·.1) := by
  unfold rowsL'
  rw [List.map_map]
  rfl
theorem one_piece {ps : List Str} (nd : ps.Nodup) {p : Str} (h : p ∈ ps) : PieceOk ps [p] := by
  refine ⟨by simp, ?_⟩
  induction ps with
  | nil => cases h
  | cons x ps ih =>
    have nx := (List.nodup_cons.mp nd)
    by_cases e : x = p
    · subst e
      rw [List.filter_cons_of_pos (by simp)]
      have : ps.filter (fun y => decide (y ∈ [x])) = [] := List.filter_eq_nil_iff.mpr fun y hy => by
        have : y ≠ x := fun z => nx.1 (by rw [← z]; exact hy)
        simp [this]
      rw [this]
    · rw [List.filter_cons_of_neg (by simp [e])]
      exact ih nx.2 ((List.mem_cons.mp h).resolve_left (fun z => e z.symm))
theorem rows_ok {L : Lore} (ok : LoreOk L) {ps : List Str} (h0 : 0 < ps.length) (hs : ps.Sublist L.parts) {q : List (List Str)} (q1 : 1 ≤ q.length) (q2 : q.length ≤ 2) (qp : ∀ p ∈ q, PieceOk ps p) : LoreOk (rowsL' L ps q) := by
  refine ⟨h0, Nat.le_trans hs.length_le ok.p4, ok.pn.sublist hs, fun p hp => ok.pp p (hs.subset hp), ?_, ?_, ?_, ?_, ?_⟩
  · show 2 ≤ (L.kps.map _).length
    rw [List.length_map]; exact ok.k2
  · show (L.kps.map _).length ≤ 6
    rw [List.length_map]; exact ok.k6
  · rw [rows_names]; exact ok.kn
  · intro k hk
    obtain ⟨k0, h, rfl⟩ := List.mem_map.mp hk
    exact ok.kp k0 h
  · intro k hk
    obtain ⟨k0, h, rfl⟩ := List.mem_map.mp hk
    exact ⟨q1, q2, qp⟩
theorem rows_rel {H : Hp} {L : Lore} {ps : List Str} {q : List (List Str)} {v : V} (h : RowR H v q) : Paired (fun v (k : KP) => RowR H v k.2) (List.replicate L.kps.length v) (rowsL' L ps q).kps := by
  unfold rowsL'
  generalize L.kps = ks
  induction ks with
  | nil => exact .nil
  | cons k ks ih => exact .cons h ih
theorem flat_rep {α : Type} (n : Nat) (x : α) : (List.replicate n [x]).flatten = List.replicate n x := by
  induction n with
  | zero => rfl
  | succ n ih => rw [List.replicate_succ, List.flatten_cons, ih]; rfl
theorem cut_to2 (xs : List V) : cutV xs none (some 2) = xs.take 2 := by
  show (xs.drop 0).take (min 2 xs.length - 0) = _
  rw [List.drop_zero, Nat.sub_zero]
  rcases Nat.le_total 2 xs.length with h | h
  · rw [Nat.min_eq_left h]
  · rw [Nat.min_eq_right h, List.take_of_length_le (Nat.le_refl _), List.take_of_length_le h]
theorem slA_two {K : PySem.W.Frag} {H : Hp} {a : Addr} {xs : List V} {Q : VK} (h : H a = some (.tup xs)) (k : ∀ p H', Same H H' → H' p = some (.tup (xs.take 2)) → Q (.ref p) H') : rSlA K (.ref a) none (some 2) H Q := by
  refine ⟨a, xs, rfl, SqT.of h, fun full => k a H (.refl _) ?_, fun _ p np => k p _ (same_new np) (by rw [upd_same, cut_to2])⟩
  have e : min 2 xs.length = xs.length := full.2
  rw [List.take_of_length_le (by omega)]
  exact h
section
variable {P : Program} {w : World} {K : PySem.W.Frag} {mg : Str → Option Value} {base : Heap} {f : Addr} {fd : FuncData}
def spThick : Sp := fun vs H Q _ => ∃ (a : Addr) (fw up mp : Int) (N : Nat), vs = [.ref a, .int fw, .int up, .int mp] ∧ PotAt a N H ∧ N ≤ 10000 ∧ 2 ≤ fw ∧ fw ≤ up ∧ up ≤ 6 ∧ 1 ≤ mp ∧ mp ≤ 4 ∧
  ∀ (L : Lore) (lo : Addr) (H' : Hp), LoreOk L → ExtP a H H' → PotAt a (N + 210) H' → LoreAt H' lo L → Q (.ref lo) H'
theorem scThick : FnScope ["pot", "few", "upmost", "most_parts", "lore", "way", "parts", "whole", "part"] ["pot", "few", "upmost", "most_parts"] (defScope sThick) := ⟨rfl, rfl, rfl, by decide +kernel, rfl, by decide +kernel, by decide +kernel⟩
theorem ok_thick {f1 f2 f3 : Addr} {fd1 fd2 fd3 : FuncData} (F : Fun K "_law_thick_shelf" "_law_thick_shelf" sThick f fd) (T : Bl mg) (hT : mg "tuple" = none)
    (G1 : FnOk P w K mg base CX0 4 f1 fd1 ["pot", "few", "upmost", "most_parts"] spShelf) (a1 : At K mg "_law_shelf" f1 fd1 ["pot", "few", "upmost", "most_parts"])
    (G2 : FnOk P w K mg base CX0 1 f2 fd2 ["pot", "upto"] spTake) (a2 : At K mg "_law_take" f2 fd2 ["pot", "upto"])
    (G3 : FnOk P w K mg base CX0 1 f3 fd3 ["lore", "key", "value"] spWith) (a3 : At K mg "_law_with" f3 fd3 ["lore", "key", "value"]) :
    FnOk P w K mg base CX0 5 f fd ["pot", "few", "upmost", "most_parts"] spThick := by
  refine F.ok scThick (fun vs H Q E h => ?_) (fun cdv A outer s H vs Q E hr h => ?_)
  · obtain ⟨a, fw, up, mp, N, rfl, _⟩ := h
    rfl
  · obtain ⟨a, fw, up, mp, N, rfl, hp, hN, h1, h2, h3, h4, h5, k⟩ := h
    have nd := scThick.nd
    have hu := hu_of hr
    have hr1 : Room 1 _ := hr.mono (by decide)
    refine ⟨_, pss_cons (ps_par (i := 4) (j := 5) rfl nd rfl rfl (by decide) rfl rfl (by exact (pa_cons (pe_call G1 hr (by rfl) a1.m a1.kp a1.b .nil pass0 (pa_cons (pv 0) (pa_cons (pv 1) (pa_cons (pv 2) (pa_cons (pv 3) pa_nil))))) (pa_cons (pe_call G2 hr1 (by rfl) a2.m a2.kp a2.b .nil pass0 (pa_cons (pv 0) (pa_cons pe_int pa_nil))) pa_nil))) rfl)
      (pss_cons (ps_if (pt_cmpR op_eq (pv 5) pe_int (nomark _)) (pss_one (ps_ret (pe_call G3 hr1 (by rfl) a3.m a3.kp a3.b .nil pass0 (pa_cons (pv 4) (pa_cons pe_str (pa_cons (pe_tupleOf (by rfl) hT (pe_op op_rep (pe_lst (pa_cons (pe_tup (pa_cons (pe_tup (pa_cons (pe_ix ix_tup (pe_dget hu (pv 4) pe_str (fun _ _ => rfl)) pe_int (fun _ _ => rfl)) pa_nil)) pa_nil)) pa_nil))
            (pe_callB call_len_seq (by rfl) T.len PySem.boot_len (pa_cons (pe_dget hu (pv 4) pe_str (fun _ _ => rfl)) pa_nil)))) pa_nil)))))) pss_nil)
      (pss_cons (ps_if (pt_cmpR op_eq (pv 5) pe_int (nomark _)) (pss_cons (ps_set (i := 6) nd rfl (.inl rfl) (pe_slice sl_tupA (pe_dget hu (pv 4) pe_str (fun _ _ => rfl)) po_none (po_some pe_int)))
          (pss_cons (ps_set (i := 7) nd rfl (.inl rfl) (pe_tupleOf (by rfl) hT (pe_lc (own := [("part", 8)]) (g := gName 8) (tt := tYes) (te := tTup (tCons (tVar 8) tNil)) rfl nd (pi_tup (pv 6)) (blkOk_by (N := ["pot", "few", "upmost", "most_parts", "lore", "way", "parts", "whole", "part"]) (sc := defScope sThick) (by decide +kernel))
              (fun _ _ _ _ _ => pg_name (i := 8) nd rfl (.inl rfl)) (fun _ _ _ _ _ => pts_nil) (fun _ _ _ _ _ => pe_tup (pa_cons (pv 8) pa_nil)))))
          (pss_one (ps_ret (pe_disp (pps_cons pe_str (pv 6) (pps_cons pe_str (pe_dget hu (pv 4) pe_str (fun _ _ => rfl)) (pps_cons pe_str (pe_tupleOf (by rfl) hT (pe_op op_rep (pe_lst (pa_cons (pv 7) pa_nil))
            (pe_callB call_len_seq (by rfl) T.len PySem.boot_len (pa_cons (pe_dget hu (pv 4) pe_str (fun _ _ => rfl)) pa_nil)))) pps_nil))) rfl rfl (by simp) (by simp)))))) pss_nil)
      (pss_one (ps_ret (pv 4))))), ?_⟩
    refine ⟨_, rfl, _, rfl, _, rfl, _, rfl, a, fw, up, mp, N, rfl, hp, hN, h1, h2, h3, h4, h5, fun L lo H1 ok x1 p1 l3 => ?_⟩
    obtain ⟨pa, nm, ps, ts, e1, e2, e3, e4, e5⟩ := id l3
    refine ⟨_, rfl, a, 4, N + 200, rfl, p1, by omega, by decide, by decide, fun i2 H2 i20 i24 x2 p2 => ?_⟩
    have kp : Keep H1 H2 := Keep.ext p1 x2
    have X2 := x1.trans x2
    have la2 := l3.at_.keep kp
    have f1' : H2 lo = some (.dK [(.inr "parts", .ref pa), (.inr "names", .ref nm), (.inr "pieces", .ref ps)]) := kp _ _ e1 fun _ z => by cases z
    have f2' : H2 pa = some (.tup (L.parts.map V.str)) := kp _ _ e2 fun _ z => by cases z
    have f3' := e3.keep kp
    have dg := dget3 ⟨[], f1'⟩
    clear e1 e2 e3 e4 e5 l3 x1 x2 p1 kp
    refine ⟨_, _, rfl, ?_⟩
    refine ⟨_, rfl, rfl, _, rfl, ?_⟩
    obtain ⟨p0, pr, hp0⟩ : ∃ p0 pr, L.parts = p0 :: pr := by
      have := ok.p0
      cases z : L.parts with
      | nil => rw [z] at this; exact absurd this (by decide)
      | cons x xs => exact ⟨x, xs, rfl⟩
    have k6 := ok.k6
    have k2 := ok.k2
    cases w0 : decide (V.int i2 = V.int 0) with
    | true =>
      refine iteT ?_
      refine ⟨_, rfl, _, rfl, lo, _, rfl, dg.1, ?_⟩
      refine ⟨pa, _, 0, .str p0, rfl, rfl, SqT.of f2', at0 (by rw [hp0]; rfl), few_ok rfl, fun q0 n0 => ⟨few_ok rfl, fun q1 n1 => ⟨few_ok rfl, fun l nl => ?_⟩⟩⟩
      have s1 : Same H2 (upd H2 q0 (.tup [.str p0])) := same_new n0
      have s2 := same_new (o := HO.tup [.ref q0]) n1
      have s3 := same_new (o := HO.lst [.ref q1]) nl
      have e0 := s3 _ _ (s2 _ _ (upd_same (H := H2) (a := q0) (o := HO.tup [.str p0])))
      have e1 := s3 _ _ (upd_same (H := upd H2 q0 (.tup [.str p0])) (a := q1) (o := HO.tup [.ref q0]))
      have el := upd_same (H := upd (upd H2 q0 (.tup [.str p0])) q1 (.tup [.ref q0])) (a := l) (o := HO.lst [.ref q1])
      have sA : Same H2 _ := (s1.trans s2).trans s3
      generalize upd (upd (upd H2 q0 (.tup [.str p0])) q1 (.tup [.ref q0])) l (.lst [.ref q1]) = H3 at sA e0 e1 el ⊢
      clear s1 s2 s3 n0 n1 nl
      have dA := dget3 ⟨[], sA _ _ f1'⟩
      refine ⟨_, rfl, lo, _, rfl, dA.2.1, nm, _, rfl, .inr ((f3'.same sA).sq), ?_⟩
      rw [List.length_map, List.length_map]
      refine ⟨l, _, [.ref q1], rfl, rfl, el, by omega, by omega, by rw [sizeLine_eq]; show 1 * _ ≤ _; omega, fun p np => ?_⟩
      rw [Int.toNat_natCast, flat_rep]
      have s4 : Same H3 (upd H3 p (.lst (List.replicate L.kps.length (.ref q1)))) := same_new np
      refine .inl ⟨p, _, rfl, SqL.of upd_same, fun T nT => ?_⟩
      have s5 := same_new (o := HO.tup (List.replicate L.kps.length (V.ref q1))) nT
      have eT := upd_same (H := upd H3 p (.lst (List.replicate L.kps.length (.ref q1)))) (a := T) (o := HO.tup (List.replicate L.kps.length (V.ref q1)))
      have sB := (sA.trans s4).trans s5
      have e0' := s5 _ _ (s4 _ _ e0)
      have e1' := s5 _ _ (s4 _ _ e1)
      generalize upd (upd H3 p (.lst (List.replicate L.kps.length (.ref q1)))) T (.tup (List.replicate L.kps.length (V.ref q1))) = H4 at sB eT e0' e1' ⊢
      refine ⟨lo, pa, nm, ps, T, rfl, sB _ _ f1', fun d H' s6 nd' d3 => ?_⟩
      have sC := sB.trans s6
      refine k (rowsL' L L.parts [[p0]]) d H' (rows_ok ok ok.p0 (List.Sublist.refl _) (Nat.le_refl 1) (by show 1 ≤ 2; decide) fun p hp => ?_) (X2.trans (.of sC)) ((p2.same sC).mono (by omega)) ⟨pa, nm, T, _, d3, sC _ _ f2', ?_, s6 _ _ eT, rows_rel ⟨q1, [.ref q0], rfl, s6 _ _ e1', .cons ⟨q0, rfl, s6 _ _ e0'⟩ .nil⟩⟩
      · rw [List.mem_singleton.mp hp]
        exact one_piece ok.pn (by rw [hp0]; exact List.mem_cons_self)
      · rw [rows_names]
        exact f3'.same sC
    | false =>
      refine iteB rfl ?_
      refine ⟨_, rfl, rfl, _, rfl, ?_⟩
      cases w1 : decide (V.int i2 = V.int 1) with
      | true =>
        refine iteT ?_
        refine ⟨_, rfl, lo, _, rfl, dg.1, 2, rfl, slA_two f2' fun pq H3 s3 e3 => ?_⟩
        rw [← List.map_take] at e3
        obtain ⟨ps2, hps2⟩ : ∃ ps2, ps2 = L.parts.take 2 := ⟨_, rfl⟩
        rw [← hps2] at e3
        have l1 : 1 ≤ ps2.length := by rw [hps2, List.length_take]; have := ok.p0; omega
        have l2 : ps2.length ≤ 2 := by rw [hps2, List.length_take]; omega
        have sub : ps2.Sublist L.parts := by rw [hps2]; exact List.take_sublist _ _
        refine ⟨_, rfl, pq, rfl, ⟨_, SqT.of e3⟩, fun D nD => lc_relQ (walk_tup (a := pq) (xs := ps2.map V.str)) nD ps2 V.str (fun p => [p]) (fun H v (q : List Str) => ∃ t, v = V.ref t ∧ H t = some (.tup (q.map V.str))) (fun Ha Hb v b kp h => ?_) rfl (by omega) (fun H s => sqT_same s (SqT.of e3)) ?_ ?_⟩
        · obtain ⟨t, h1, h2⟩ := h
          exact ⟨t, h1, kp _ _ h2 fun _ z => by cases z⟩
        · rintro i p H4 R hb s4 kR
          exact ⟨rfl, _, rfl, few_ok rfl, fun t nt => kR _ _ (same_new nt) ⟨t, rfl, upd_same⟩⟩
        · intro H4 ts4 s4 eD pD
          refine .inl ⟨D, _, rfl, SqL.of eD, fun W nW => ?_⟩
          have s5 := same_new (o := HO.tup ts4) nW
          have eW : upd H4 W (.tup ts4) W = some (.tup ts4) := upd_same
          have pW := Paired.mapP pD fun v q ⟨t, h1, h2⟩ => (⟨t, h1, s5 _ _ h2⟩ : ∃ t, v = V.ref t ∧ upd H4 W (.tup ts4) t = some (HO.tup (q.map V.str)))
          have e3' := s5 _ _ (s4 _ _ e3)
          have sA := (s3.trans s4).trans s5
          generalize upd H4 W (.tup ts4) = H5 at sA eW pW e3' ⊢
          refine fun d nd' => ?_
          have s6 : Same H5 (upd H5 d (.dK [])) := same_new nd'
          have ed := upd_same (H := H5) (a := d) (o := HO.dK [])
          have s26 := sA.trans s6
          have eW6 := s6 _ _ eW
          have pW6 := Paired.mapP pW fun v q ⟨t, h1, h2⟩ => (⟨t, h1, s6 _ _ h2⟩ : ∃ t, v = V.ref t ∧ upd H5 d (.dK []) t = some (HO.tup (q.map V.str)))
          have e36 := s6 _ _ e3'
          have ndH : H2 d = none := sA.free nd'
          generalize upd H5 d (.dK []) = H6 at s26 ed eW6 pW6 e36 ⊢
          have d6 := dget3 ⟨[], s26 _ _ f1'⟩
          refine ⟨_, rfl, _, rfl, lo, _, rfl, d6.2.1, ?_⟩
          refine ⟨_, rfl, few_ok rfl, fun l nl => ?_⟩
          have s7 : Same H6 (upd H6 l (.lst [.ref W])) := same_new nl
          have el := upd_same (H := H6) (a := l) (o := HO.lst [.ref W])
          have ed7 := s7 _ _ ed
          have eW7 := s7 _ _ eW6
          have pW7 := Paired.mapP pW6 fun v q ⟨t, h1, h2⟩ => (⟨t, h1, s7 _ _ h2⟩ : ∃ t, v = V.ref t ∧ upd H6 l (.lst [.ref W]) t = some (HO.tup (q.map V.str)))
          have e37 := s7 _ _ e36
          have s27 := s26.trans s7
          generalize upd H6 l (.lst [.ref W]) = H7 at s27 el ed7 eW7 pW7 e37 ⊢
          clear s7 nl
          have d7 := dget3 ⟨[], s27 _ _ f1'⟩
          refine ⟨_, rfl, lo, _, rfl, d7.2.1, nm, _, rfl, .inr ((f3'.same s27).sq), ?_⟩
          rw [List.length_map, List.length_map]
          refine ⟨l, _, [.ref W], rfl, rfl, el, by omega, by omega, by rw [sizeLine_eq]; show 1 * _ ≤ _; omega, fun p np => ?_⟩
          rw [Int.toNat_natCast, flat_rep]
          have s8 : Same H7 (upd H7 p (.lst (List.replicate L.kps.length (.ref W)))) := same_new np
          refine .inl ⟨p, _, rfl, SqL.of upd_same, fun T nT => ?_⟩
          have s9 := same_new (o := HO.tup (List.replicate L.kps.length (V.ref W))) nT
          have eT := upd_same (H := upd H7 p (.lst (List.replicate L.kps.length (.ref W)))) (a := T) (o := HO.tup (List.replicate L.kps.length (V.ref W)))
          have s79 := s8.trans s9
          generalize upd (upd H7 p (.lst (List.replicate L.kps.length (.ref W)))) T (.tup (List.replicate L.kps.length (V.ref W))) = H8 at s79 eT ⊢
          clear s8 s9 nT np
          refine ⟨s79 _ _ ed7, [(.inr "parts", .ref pq), (.inr "names", .ref nm), (.inr "pieces", .ref T)], rfl, by show 3 ≤ 15; decide, ?_⟩
          have far : ∀ {b : Addr} {o : HO} (X : HO), H2 b = some o → upd H8 d X b = some o := fun {b o} X q => by
            rw [upd_ne (ne_of_none q ndH)]
            exact s79 _ _ (s27 _ _ q)
          have sZ : ∀ X : HO, Same H2 (upd H8 d X) := fun X b o q => far X q
          have at8 : ∀ {b : Addr} {o : HO} (X : HO), H7 b = some o → (∀ kvs, o ≠ .dK kvs) → upd H8 d X b = some o := fun {b o} X q n => by
            rw [upd_ne (fun z => by rw [z, ed7] at q; exact n _ (Option.some.inj q).symm)]
            exact s79 _ _ q
          refine k (rowsL' L ps2 (ps2.map fun p => [p])) d _ (rows_ok ok (by omega) sub (by rw [List.length_map]; exact l1) (by rw [List.length_map]; exact l2) fun p hp => ?_) (X2.trans (.of (sZ _))) ((p2.same (sZ _)).mono (by omega)) ⟨pq, nm, T, _, ⟨[], upd_same⟩, at8 _ e37 (fun _ z => by cases z), ?_, ?_, rows_rel ⟨W, ts4, rfl, at8 _ eW7 (fun _ z => by cases z), Paired.mapP pW7 fun v q ⟨t, h1, h2⟩ => ⟨t, h1, at8 _ h2 (fun _ z => by cases z)⟩⟩⟩
          · obtain ⟨x, hx, rfl⟩ := List.mem_map.mp hp
            exact one_piece (ok.pn.sublist sub) hx
          · rw [rows_names]
            exact f3'.same (sZ _)
          · rw [upd_ne (fun z => by rw [z] at eT; rw [s79 _ _ ed7] at eT; cases eT)]
            exact eT
      | false =>
        refine iteB rfl ?_
        exact ⟨_, rfl, k L lo H2 ok X2 (p2.mono (by omega)) la2⟩
end
end K6
set_option Elab.async false
set_option linter.all false
set_option maxRecDepth 100000
set_option maxHeartbeats 4000000
set_option pp.maxSteps 1200
set_option pp.deepTerms false
namespace K6
open PySem PySem.Spec PyProof.Rows L2 Lk
theorem eqv_nil (zs : List Str) : PyData.eqv (.list (strsD zs)) (.list []) = decide (zs = []) := by
  cases zs with
  | nil => decide +kernel
  | cons z zs => simp [strsD, PyData.eqv, PyData.eqvAll]
theorem eqvT_nil (zs : List Str) : PyData.eqv (.tuple (strsD zs)) (.tuple []) = decide (zs = []) := by
  cases zs with
  | nil => decide +kernel
  | cons z zs => simp [strsD, PyData.eqv, PyData.eqvAll]
theorem stv_nice {L : Lore} (ok : LoreOk L) {v : Vec} (h : v.length = L.parts.length) : PyData.strOk (stv v) = true ∧ (stv v).length ≤ 4 := by
  refine ⟨strOk_of fun c hc => ?_, by rw [stv_len, h]; exact ok.p4⟩
  rcases stv_bits v c hc with rfl | rfl <;> decide
theorem nice_recsT {L : Lore} (ok : LoreOk L) {ws : List Vec} (h : ∀ v ∈ ws, v.length = L.parts.length) (l : ws.length ≤ 16) : Nice (16 * (4 + 1)) 1 (.tuple (strsD (ws.map stv))) :=
  nice_strs (fun z hz => by
    obtain ⟨v, hv, rfl⟩ := List.mem_map.mp hz
    exact stv_nice ok (h v hv)) (by rw [List.length_map]; exact l)
theorem within_len {L : Lore} {As : Ans} {n : Nat} : ∀ v ∈ withinV L As n, v.length = L.parts.length := fun v hv => mem_vL.mp (List.mem_filter.mp hv).1
theorem within16 {L : Lore} (ok : LoreOk L) (As : Ans) (n : Nat) : (withinV L As n).length ≤ 16 := Nat.le_trans (List.length_filter_le _ _) (recs16 ok)
theorem map_ne {α β : Type} {f : α → β} {xs : List α} (h : xs ≠ []) : xs.map f ≠ [] := fun e => h (List.map_eq_nil_iff.mp e)
/-- the answers with one keeper's more -/
def withA (L : Lore) (As : Ans) (k : KP) (w : Vec) : Ans := wideA L (As ++ [(k, w)])
theorem withA_es {L : Lore} (ok : LoreOk L) {As : Ans} (ao : AnsOk L As) {k : KP} (hk : k ∈ L.kps) (ho : k.1 ∉ As.map (·.1.1)) {w : Vec} (wl : w.length = k.2.length) : EsOk L (As ++ [(k, w)]) := by
  refine ⟨fun e0 he0 => ?_, ?_⟩
  · rcases List.mem_append.mp he0 with h | h
    · exact ao.both e0 h
    · rw [List.mem_singleton.mp h]
      exact ⟨hk, wl⟩
  · rw [List.map_append, List.nodup_append]
    refine ⟨by rw [names_eq]; exact ok.kn.sublist (ao.sub.map _), by simp, fun y hy y2 hy2 e => ?_⟩
    rw [List.map_cons, List.map_nil, List.mem_singleton] at hy2
    exact ho (by rw [← hy2, ← e]; exact hy)
theorem withA_ok {L : Lore} (ok : LoreOk L) {As : Ans} (ao : AnsOk L As) {k : KP} (hk : k ∈ L.kps) (ho : k.1 ∉ As.map (·.1.1)) {w : Vec} (wl : w.length = k.2.length) : AnsOk L (withA L As k w) := wide_ok ok (withA_es ok ao hk ho wl)
def kvA (As : Ans) : List (L2.Key × V) := As.map fun a => ((.inr a.1.1 : L2.Key), V.str (stv a.2))
theorem merge_snoc (b xs : List (L2.Key × V)) (x : L2.Key × V) : mergeK b (xs ++ [x]) = putK (mergeK b xs) x.1 x.2 := by
  unfold mergeK
  rw [List.foldl_append]
  rfl
theorem put_len (kvs : List (L2.Key × V)) (k : L2.Key) (v : V) : (putK kvs k v).length ≤ kvs.length + 1 := by
  unfold putK
  split
  · rw [List.length_map]
    omega
  · rw [List.length_append]
    exact Nat.le_refl _
theorem merge_len : ∀ (xs b : List (L2.Key × V)), (mergeK b xs).length ≤ b.length + xs.length
  | [], b => Nat.le_refl _
  | x :: xs, b => by
    have := merge_len xs (putK b x.1 x.2)
    have h := put_len b x.1 x.2
    show (mergeK (putK b x.1 x.2) xs).length ≤ _
    rw [List.length_cons]
    omega
section
variable {P : Program} {w : World} {K : PySem.W.Frag} {mg : Str → Option Value} {base : Heap} {f : Addr} {fd : FuncData}
/-! ### believed_records -/
def spBelRecs (C CS : Addr) : Sp := fun vs H Q _ => ∃ (x r : Addr) (L : Lore) (As : Ans) (n : Nat), vs = [.ref x, .ref r, .int (n : Int)] ∧ ShAt H C CS x L ∧ LoreOk L ∧ AnsAt H r As ∧ AnsOk L As ∧ n ≤ 3 ∧ withinV L As n ≠ [] ∧
  ∀ p H', Same H H' → H p = none → H' p = some (.tup (((withinV L As n).map stv).map V.str)) → Q (.ref p) H'
/-! ### with_answer -/
def spWithAns (C CS : Addr) : Sp := fun vs H Q _ => ∃ (x r : Addr) (L : Lore) (As : Ans) (kq : KP) (wv : Vec), vs = [.ref x, .ref r, .str kq.1, .str (stv wv)] ∧ ShAt H C CS x L ∧ LoreOk L ∧ AnsAt H r As ∧ AnsOk L As ∧ kq ∈ L.kps ∧ kq.1 ∉ As.map (·.1.1) ∧ wv.length = kq.2.length ∧
  ∀ t H', Same H H' → H t = none → AnsAt H' t (withA L As kq wv) → (∃ us, H' t = some (.tup us)) → Q (.ref t) H'
end
end K6
set_option Elab.async false
set_option linter.all false
set_option maxRecDepth 100000
set_option maxHeartbeats 4000000
/-! Part Lm: a lambda handed to a def that calls it where an error is caught; what is wished of the error is told at the slots. -/
namespace Lk
open PySem PySem.Spec PyProof.Rows L2 LamX
theorem Keep.extN {H H' : Hp} (x : ExtN H H') : Keep H H' := fun b o e n => x b o e fun ps z => by
  subst z
  exact n () (.tbl _)
/-- the code of a lambda, known by its name -/
abbrev lamQ (X : Cx) : Str := X.env.qual ++ "<lambda>"
section
variable {X : Cx} {pins : List (Addr × Obj)} {σ : L2.St} {H : Hp} {s : Shared}
/-- x(), in the def that got the lambda: as LamX.pe_act, but the wish is told at the slots -/
theorem act_at {Ng : List Str} {qg : Str} {sg : Scope} {g f cl : Addr} {cdg pm ctv : Value} {prs : Arguments} {body : Expr} {scope : Scope} {k i : Nat} {a : Str}
    {pn : List (Addr × Obj)} {xe : Value → Shared → Prop} {W : WX} {tb : XK → TE} {p1 p2 : Pos}
    (I : Inv X pins σ H s) (L : LamS X.env.scope scope)
    (there : s.heap.get? f = some (PySem.W.kla_obj "<lambda>" (lamQ X) prs body scope (cloFrom X.env.cells scope.names []) pm cl ctv))
    (untold : H f = none) (noframe : f ∉ frs X.stack)
    (nothing : bindArgs (PySem.W.kla_fn "<lambda>" (lamQ X) prs body scope (cloFrom X.env.cells scope.names []) pm (.ref cl) ctv) ⟨[], []⟩ = pure [])
    (tk : Takes ((cxOf C8.CX0 X.prog X.w X.K X.mg X.base Ng qg sg g cdg X.A X.stack s H C8.E0).tr pn xe) W)
    (room : Room (k + 1) (X.A.deeper (envOfC qg sg s.heap.objs.size g cdg)))
    (hb : ∀ (A : Around) (o : List Env) (s : Shared) (H : Hp) (E : XK), Room k (A.deeper (lamEnv X scope s.heap.objs.size f cl)) → PE (lamCx X A o s H E scope f cl) body (tb E))
    (hN : Ng[i]? = some a) (hv : Vis sg a) (hd : (a == ("__debug__" : Str)) = false := by decide) (hcd : (a == ("__classdict__" : Str)) = false := by decide) :
    PE ((cxOf C8.CX0 X.prog X.w X.K X.mg X.base Ng qg sg g cdg X.A X.stack s H C8.E0).tr pn xe) (.Call (.Name a p1) [] [] p2)
      (fun τ G Q => ∃ E : XK, (∀ cls d G', E cls d G' → W cls d τ G') ∧ τ[i]? = some (some (.ref f)) ∧ G cl = some (CodeO cl (lamQ X)) ∧ tb E σ G Q) := by
  constructor
  rintro pins' s0 τ G Q J ⟨E, hW, at0, hc, ht⟩
  refine wpAny_Call_Name_kw (thn ((pe_var (pos := p1) (i := i) hN hv hd hcd).run pins' s0 τ G (fun v G' => v = .ref f ∧ G' = G) J ⟨.ref f, at0, rfl, rfl⟩) ?_)
  rintro u s1 ⟨v, G1, J1, r1, rfl, rfl⟩
  cases (show u = Value.ref f from r1)
  have ob := J1.base.keep f _ there untold noframe (fun z => nomatch (show f ∈ ([] : List Addr) from z))
  refine PySem.W.callWith_F0 ⟨_, _, _, _, ob⟩ ?_
  have un : Un (frs X.stack) [] H G1 s.heap s1.heap := J1.base
  obtain ⟨⟨oc, vs, t, look, data, named⟩, _⟩ := J1.hok cl _ hc
  have ran : codeAny (model X.prog X.w) (X.A.deeper (envOfC qg sg s.heap.objs.size g cdg)) (.call (.ref f) ⟨[], []⟩)
      (CR (L2.CX X.prog X.w) (envOfC qg sg s.heap.objs.size g cdg :: X.stack) X.prog X.w G1 s1 Q E) s1 := by
    refine PySem.W.kla_callFunE room.depth ob rfl L.co L.gen rfl ⟨cl, oc, vs, t, rfl, look, data, named⟩ ?_
    rw [nothing]
    refine wpAny_pure (wpAny_newFunctionEnv (fun y hy => (L.own y hy).2) (fun y hy => absurd hy (by simp)) ?_ L.kind)
    intro h₁ names sb
    refine ⟨J1.nolimit.fresh _ sb, ?_⟩
    show codeAny _ _ (.expr body (lamEnv X scope s1.heap.objs.size f cl)) _ _
    have kept : ∀ b o, s1.heap.get? b = some o → h₁.get? b = some o := by
      intro b o e
      exact sb.extBut b o (Nat.ne_of_lt (Heap.lt_size e)) (Heap.get?_push_of_some _ e)
    have J2 : Inv (lamCx X (X.A.deeper (envOfC qg sg s.heap.objs.size g cdg)) (envOfC qg sg s.heap.objs.size g cdg :: X.stack) s1 G1 E scope f cl) [] σ G1
        { s1 with heap := h₁, toks := s1.toks + ([] : List (Str × Value)).length } := lam_start2 I L J1.env0 room.hd un names kept
    refine PySem.W.kla_codeExpr (wpAny_mono ((hb _ _ s1 G1 E (room.deeper _)).run [] _ _ G1 Q J2 ht) ?_ (fun _ _ y => y))
    rintro v s' ⟨w', G2, J3, rel, y⟩
    exact ⟨w', G2, J3.os, J3.bare, J3.base, J3.hok, rel, y⟩
  refine wpAny_call (codeAny_mono ran ?_)
  intro r s' y
  cases r with
  | error e => exact tk _ _ (XE.of_call J1 (fun cls d G' z => hW cls d G' z) y)
  | ok fl =>
    cases fl with
    | ret u => exact J1.after y
    | next => exact y.elim
    | brk => exact y.elim
    | cont => exact y.elim
end
/-- a def that calls what it got where an error is caught: a calls it; TT: what it makes of the lambda's reading -/
def HearsTo (X : Cx) (Ng : List Str) (x : Str) (sg : Scope) (g : Addr) (cdg : Value) (bg : List Stmt) (a q : Str) (TT : (XK → Hp → VK → Prop) → Hp → VK → Prop) : Prop :=
  ∀ (f cl : Addr) (s : Shared) (H : Hp) (Q : VK) (tl : XK → Hp → VK → Prop),
    (∀ (W : WX) (pn : List (Addr × Obj)) (xe : Value → Shared → Prop) (p1 p2 : Pos),
      Takes ((cxOf C8.CX0 X.prog X.w X.K X.mg X.base Ng x sg g cdg X.A X.stack s H C8.E0).tr pn xe) W →
      PE ((cxOf C8.CX0 X.prog X.w X.K X.mg X.base Ng x sg g cdg X.A X.stack s H C8.E0).tr pn xe) (.Call (.Name a p1) [] [] p2)
        (fun τ G Q => ∃ E : XK, (∀ cls d G', E cls d G' → W cls d τ G') ∧ τ[0]? = some (some (.ref f)) ∧ G cl = some (CodeO cl q) ∧ tl E G Q)) →
    H cl = some (CodeO cl q) → TT tl H Q →
    ∃ t, PSs (cxOf C8.CX0 X.prog X.w X.K X.mg X.base Ng x sg g cdg X.A X.stack s H C8.E0).nox bg t ∧ t { nx := fun _ H' => Q .non H', rt := Q } (L2.start Ng [.ref f]) H
section
variable {X : Cx}
/-- x(lambda: body), x hearing it -/
theorem pe_hear {T : List (Addr × Str)} {TT : (XK → Hp → VK → Prop) → Hp → VK → Prop} {x a : Str} {g c P : Addr} {k : Nat} {pg : Arguments} {bg : List Stmt} {sg : Scope}
    {dV kV doc pm cdv ct oc : Value} {an od : Option Addr} {osl : Array (Option Value)} {Ng : List Str} {prs : Arguments} {body : Expr} {scope : Scope} {t : XK → TE} {p lpos pos : Pos}
    (hg : Gl X x) (hm : X.mg x = some (.ref g)) (hk : PySem.W.keepIn X.K (.ref g) = true)
    (lk : X.K.lookup g = some ⟨oc, od, .func (PySem.W.fnOf x x pg bg sg dV kV doc pm an cdv ct), osl⟩) (code : PySem.W.codeIn X.K cdv x = true)
    (bd : L2.Binds X.K (PySem.W.fnOf x x pg bg sg dV kV doc pm an cdv ct) [a] []) (Sg : FnScope Ng [a] sg) (hN : Ng[0]? = some a) (hv : Vis sg a)
    (hears : HearsTo X Ng x sg g cdv bg a (lamQ X) TT)
    (TB : TabB X.base X.mg c P) (mine : X.env.code = .ref c) (told : (P, lamQ X) ∈ T) (sole : ∀ p ∈ T, p.1 = P → p.2 = lamQ X)
    (room : Room (k + 2) X.A) (L : LamS X.env.scope scope) (nodef : defaultsOf prs X.env = ([], []))
    (nothing : ∀ (q : Str) (cl : List (Str × Addr)) (pm cv ctv : Value), bindArgs (PySem.W.kla_fn "<lambda>" q prs body scope cl pm cv ctv) ⟨[], []⟩ = pure [])
    (hb : ∀ (A : Around) (o : List Env) (s : Shared) (H : Hp) (E : XK) (f cl : Addr), Room k (A.deeper (lamEnv X scope s.heap.objs.size f cl)) → PE (lamCx X A o s H E scope f cl) body (t E))
    (h1 : (x == ("__debug__" : Str)) = false := by decide) (h2 : (a == ("__debug__" : Str)) = false := by decide) (h3 : (a == ("__classdict__" : Str)) = false := by decide) :
    PE X (.Call (.Name x p) [.Lambda prs body scope lpos] [] pos) (tLam T TT t) := by
  constructor
  rintro pins s σ H Q I ⟨tabs, want⟩
  refine wpAny_Call_Name_kw (ld_glob I hg hm ?_ h1)
  refine PySem.W.callWith_K (h₀ := X.base) I.ok.mod.kin hk ?_ (by rfl) (by rfl)
  show wpAny _ _ (spliced ((false, eval (.Lambda prs body scope lpos) X.env) :: backTo pos (starEach [] X.env))) _ _ s
  refine Calls.spliced_cons (lam_make2 I TB mine told sole tabs nodef (L.has I.ok) ?_)
  intro f cl pm' ctv H1 s1 I1 grown tabs1 there untold noframe known
  refine Calls.spliced_nil ⟨I1.kIn, ?_⟩
  have ran : codeAny (model X.prog X.w) X.A (.call (.ref g) ⟨[.ref f], []⟩) (CR C8.CX0 X.stack X.prog X.w H1 s1 Q C8.E0) s1 := by
    refine run_ofS (N := Ng) (ps := [a]) (us := [.ref f]) (vs := [.ref f]) lk code Sg room I1.env0 (bd s1 [.ref f] I1.kIn rfl) (.cons rfl .nil) rfl (fun room' => ?_)
    obtain ⟨u, hu, hq⟩ := hears f cl s1 H1 Q (fun E G Q' => t E σ G Q')
      (fun W pn xe p1 p2 tk => act_at (i := 0) I1 L there untold noframe (nothing _ _ _ _ _) tk room' (fun A o s H E r => hb A o s H E f cl r) hN hv h2 h3) known (want H1 grown tabs1)
    exact ⟨u, hu.nox, hq⟩
  refine wpAny_call (codeAny_mono ran ?_)
  intro r s2 y
  cases r with
  | error e => exact (show False from y).elim
  | ok fl =>
    cases fl with
    | ret u => exact I1.after y
    | next => exact y.elim
    | brk => exact y.elim
    | cont => exact y.elim
end
end Lk
set_option Elab.async false
set_option linter.all false
set_option maxRecDepth 100000
set_option maxHeartbeats 1500000
set_option pp.maxSteps 1200
set_option pp.deepTerms false
namespace K6
open PySem PySem.Spec PyProof.Rows L2 Lk
abbrev sRows : Stmt := top 84
/-- all answers to a record -/
def rowV (L : Lore) (v : Vec) : List V := L.kps.map fun k => V.str (stv (ansV L k v))
def RelTb (H : Hp) (L : Lore) (kv : L2.Key × V) (v : Vec) : Prop := kv.1 = .inr (stv v) ∧ ∃ a, kv.2 = V.ref a ∧ H a = some (.lst (rowV L v))
def TabAt (H : Hp) (tb : Addr) (L : Lore) : Prop := ∃ kvs, H tb = some (.dK kvs) ∧ Paired (RelTb H L) kvs (vL L.parts.length)
theorem TabAt.same {H H' : Hp} {tb : Addr} {L : Lore} (h : TabAt H tb L) (s : Same H H') : TabAt H' tb L := by
  obtain ⟨kvs, e, p⟩ := h
  exact ⟨kvs, s _ _ e, Paired.mapP p fun kv v ⟨h1, a, h2, h3⟩ => ⟨h1, a, h2, s _ _ h3⟩⟩
theorem rowV_ne {L : Lore} (ok : LoreOk L) (v : Vec) {o b c : Int} : rowV L v ≠ [.int o, .int b, .int c] := by
  unfold rowV
  have := ok.k2
  cases z : L.kps with
  | nil => rw [z] at this; exact absurd this (by decide)
  | cons x xs => intro e; cases e
theorem TabAt.ext {a tb : Addr} {N : Nat} {H H' : Hp} {L : Lore} (ok : LoreOk L) (hp : PotAt a N H) (h : TabAt H tb L) (x : ExtP a H H') : TabAt H' tb L := by
  obtain ⟨kvs, e, p⟩ := h
  obtain ⟨o, b, c, ea, _⟩ := hp
  refine ⟨kvs, x _ _ (fun z => by rw [z, ea] at e; cases e) e, Paired.mapP p fun kv v ⟨h1, q, h2, h3⟩ => ⟨h1, q, h2, x _ _ (fun z => ?_) h3⟩⟩
  rw [z, ea] at h3
  exact rowV_ne ok v (HO.lst.inj (Option.some.inj h3)).symm
theorem TabAt.extN {tb : Addr} {H H' : Hp} {L : Lore} (h : TabAt H tb L) (x : LamX.ExtN H H') : TabAt H' tb L := by
  obtain ⟨kvs, e, p⟩ := h
  exact ⟨kvs, x _ _ e (fun _ z => by cases z), Paired.mapP p fun kv v ⟨h1, q, h2, h3⟩ => ⟨h1, q, h2, x _ _ h3 (fun _ z => by cases z)⟩⟩
theorem put_new {kvs : List (L2.Key × V)} {k : L2.Key} {v : V} (h : ∀ x ∈ kvs, x.1 ≠ k) : putK kvs k v = kvs ++ [(k, v)] := by
  unfold putK
  rw [if_neg]
  intro ha
  obtain ⟨y, hy, he⟩ := List.any_eq_true.mp ha
  exact h y hy (of_decide_eq_true he)
theorem paired_mem {α β : Type} {R : α → β → Prop} : ∀ {xs : List α} {ys : List β}, Paired R xs ys → ∀ x ∈ xs, ∃ y ∈ ys, R x y
  | _, _, .nil, x, h => by cases h
  | _, _, .cons r t, x, h => by
    rcases List.mem_cons.mp h with rfl | h
    · exact ⟨_, List.mem_cons_self, r⟩
    · obtain ⟨y, h1, h2⟩ := paired_mem t x h
      exact ⟨y, List.mem_cons_of_mem _ h1, h2⟩
section
variable {P : Program} {w : World} {K : PySem.W.Frag} {mg : Str → Option Value} {base : Heap} {f : Addr} {fd : FuncData}
def spRows : Sp := fun vs H Q _ => ∃ (lo : Addr) (L : Lore), vs = [.ref lo] ∧ LoreAt H lo L ∧ LoreOk L ∧ ∀ tb H', Same H H' → TabAt H' tb L → Q (.ref tb) H'
theorem scRows : FnScope ["lore", "found", "record", "name"] ["lore"] (defScope sRows) := ⟨rfl, rfl, rfl, by decide +kernel, rfl, by decide +kernel, by decide +kernel⟩
theorem ok_rows {f1 f2 : Addr} {fd1 fd2 : FuncData} (F : Fun K "_law_answer_rows" "_law_answer_rows" sRows f fd) (T : Bl mg)
    (G1 : FnOk P w K mg base CX0 1 f1 fd1 ["lore"] spRecords) (a1 : At K mg "_law_records" f1 fd1 ["lore"])
    (G2 : FnOk P w K mg base CX0 2 f2 fd2 ["lore", "name", "record"] spLAnswer) (a2 : At K mg "_law_answer" f2 fd2 ["lore", "name", "record"]) :
    FnOk P w K mg base CX0 3 f fd ["lore"] spRows := by
  refine F.ok scRows (fun vs H Q E h => ?_) (fun cdv A outer s H vs Q E hr h => ?_)
  · obtain ⟨lo, L, rfl, _⟩ := h
    rfl
  · obtain ⟨lo, L, rfl, la, ok, k⟩ := h
    have nd := scRows.nd
    have hu := hu_of hr
    have hr1 : Room 1 _ := hr.mono (by decide)
    refine ⟨_, pss_cons (ps_set (i := 1) nd rfl (.inl rfl) pe_dnewK)
      (pss_cons (ps_for PassesOwn.never rfl (pi_list (pe_call G1 hr1 (by rfl) a1.m a1.kp a1.b .nil pass0 (pa_cons (pv 0) pa_nil))) (pg_name (i := 2) nd rfl (.inr rfl))
        (pss_one (ps_asg (pe_lc (own := [("name", 3)]) (g := gName 3) (tt := tYes) (te := tCall spLAnswer [] E0 (tCons (tVar 0) (tCons (tVar 3) (tCons (tVar 2) tNil)))) rfl nd (pi_tup (pe_dget hu (pv 0) pe_str (fun _ _ => rfl)))
            (blkOk_by (N := ["lore", "found", "record", "name"]) (sc := defScope sRows) (by decide +kernel)) (fun _ _ _ _ _ => pg_name (i := 3) nd rfl (.inl rfl)) (fun _ _ _ _ _ => pts_nil)
            (fun _ _ _ _ _ => pe_call G2 hr (by rfl) a2.m a2.kp a2.b .nil pass0 (pa_cons (pv 0) (pa_cons (pv 3) (pa_cons (pv 2) pa_nil))))) (pg_sub (pv 1) (pv 2) (set_dict hu)))))
      (pss_one (ps_ret (pv 1)))), ?_⟩
    have r16 := recs16 ok
    refine fun D nD => ?_
    have s1 : Same H (upd H D (.dK [])) := same_new nD
    have eD0 : upd H D (.dK []) D = some (.dK []) := upd_same
    generalize upd H D (.dK []) = H1 at s1 eD0
    refine ⟨_, rfl, lo, L, rfl, la.same s1, ok.p4, fun p H2 s2 np ep => ?_⟩
    have em : (recsL L).map V.str = (vL L.parts.length).map fun v => V.str (stv v) := by unfold recsL; rw [List.map_map]; rfl
    rw [em] at ep
    have eD2 := s2 _ _ eD0
    have pD : p ≠ D := fun z => by rw [z, eD0] at np; cases np
    refine ⟨p, rfl, ⟨_, SqL.of ep⟩, for_list (xs := (vL L.parts.length).map fun v => V.str (stv v)) (fun i σ H3 => ∃ (u1 u2 : Option V) (kvs : List (L2.Key × V)), σ = [some (.ref lo), some (.ref D), u1, u2] ∧
      H3 D = some (.dK kvs) ∧ Paired (RelTb H3 L) kvs ((vL L.parts.length).take i) ∧ KeepB D H2 H3) ?_ ?_ ?_ ?_⟩
    · exact ⟨_, _, _, rfl, eD2, .nil, fun _ _ _ e => e⟩
    · rintro i σ H3 _ ⟨_, _, _, _, _, _, kb⟩
      exact SqL.of (kb _ _ pD ep)
    · rintro i x σ H3 hx ⟨u1, u2, kvs, rfl, eD, pr, kb⟩
      obtain ⟨v, hv⟩ : ∃ v, (vL L.parts.length)[i]? = some v := by
        rw [List.getElem?_map] at hx
        cases e : (vL L.parts.length)[i]? with
        | none => rw [e] at hx; cases hx
        | some v => exact ⟨v, rfl⟩
      obtain rfl : V.str (stv v) = x := by
        rw [List.getElem?_map, hv] at hx
        exact Option.some.inj hx
      have vl := mem_vL.mp (List.mem_of_getElem? hv)
      have sH : ∀ {b : Addr} {o : HO}, H b = some o → H3 b = some o := fun {b o} q => kb _ _ (fun z => by rw [z, nD] at q; cases q) (s2 _ _ (s1 _ _ q))
      have la3 : LoreAt H3 lo L := la.same fun b o q => sH q
      obtain ⟨pa, nm, pt, rows, e1, e2, e3, e4, e5⟩ := id la3
      refine ⟨_, rfl, lo, _, rfl, (dget3 e1).2.1, nm, rfl, ⟨_, e3.sq⟩, fun D2 nD2 => lc_fm (walk_tup (a := nm) (xs := (L.kps.map (·.1)).map V.str)) L.kps (fun k => some (V.str (stv (ansV L k v)))) (by rw [List.length_map, List.length_map]) (by rw [List.length_map, List.length_map]; have := ok.k6; omega) nD2 (fun H s => (e3.same s).sq) ?_ ?_⟩
      · rintro j u kq H4 H4' R Rn hk s4 ⟨rfl, hu2⟩ k1 k2
        obtain rfl : V.str kq.1 = u := by
          rw [List.getElem?_map, List.getElem?_map, hk] at hu2
          exact Option.some.inj hu2
        refine ⟨rfl, _, rfl, _, rfl, _, rfl, lo, L, j, kq, stv v, rfl, la3.same s4, ok, hk, recOk_stv vl, fun H5 s5 => ?_⟩
        rw [answer_stv vl]
        exact k1 _ _ rfl s5
      · intro H4 s4 eD2
        rw [fm_some] at eD2
        have eD4 := s4 _ _ eD
        have kl : kvs.length = i := by
          rw [paired_len pr, List.length_take]
          have := (List.getElem?_eq_some_iff.mp hv).1
          omega
        have fresh : ∀ x ∈ kvs, x.1 ≠ (.inr (stv v) : L2.Key) := fun x hx e => by
          obtain ⟨y, hy, h1, _⟩ := paired_mem pr x hx
          rw [h1] at e
          have := stv_inj (Sum.inr.inj e)
          subst this
          obtain ⟨j, hj, ej⟩ := List.getElem_of_mem hy
          have nv := nodup_vL L.parts.length
          rw [List.length_take] at hj
          rw [List.getElem_take] at ej
          obtain ⟨hi, ei⟩ := List.getElem?_eq_some_iff.mp hv
          have := (List.getElem_inj (h₀ := by omega) (h₁ := hi) nv).mp (ej.trans ei.symm)
          omega
        have DD2 : D2 ≠ D := fun z => by rw [z, eD] at nD2; cases nD2
        refine ⟨_, rfl, _, rfl, D, _, rfl, DPut.k (k := .inr (stv v)) eD4 (by rw [kl, sizeLine_eq]; have := (List.getElem?_eq_some_iff.mp hv).1; omega), ?_⟩
        rw [put_new fresh]
        refine ⟨_, _, kvs ++ [(.inr (stv v), .ref D2)], rfl, upd_same, ?_, fun b o nb q => ?_⟩
        · rw [List.take_add_one, hv]
          refine paired_append (Paired.mapP pr fun kv w ⟨h1, a, h2, h3⟩ => ⟨h1, a, h2, ?_⟩) (.cons ⟨rfl, D2, rfl, ?_⟩ .nil)
          · have h4 := s4 _ _ h3
            rw [upd_ne (fun z => by rw [z, eD4] at h4; cases h4)]
            exact h4
          · rw [upd_ne DD2]
            exact eD2
        · rw [upd_ne nb]
          exact s4 _ _ (kb _ _ nb q)
    · rintro σ H3 ⟨u1, u2, kvs, rfl, eD, pr, kb⟩
      rw [List.take_of_length_le (by rw [List.length_map]; exact Nat.le_refl _)] at pr
      exact ⟨_, rfl, k D H3 (fun b o q => kb _ _ (fun z => by rw [z, nD] at q; cases q) (s2 _ _ (s1 _ _ q))) ⟨kvs, eD, pr⟩⟩
/-! ### _law_strings -/
def spStrings : Sp := fun vs H Q _ => ∃ (lo : Addr) (L : Lore) (j : Nat) (kq : KP), vs = [.ref lo, .str kq.1] ∧ LoreAt H lo L ∧ LoreOk L ∧ L.kps[j]? = some kq ∧
  ∀ (us : List Vec) p H', us.Perm (vL kq.2.length) → us.length ≤ 4 → Same H H' → H p = none → H' p = some (.lst ((us.map stv).map V.str)) → Q (.ref p) H'
end
end K6
set_option Elab.async false
set_option linter.all false
set_option maxRecDepth 100000
set_option maxHeartbeats 1500000
set_option pp.maxSteps 1200
set_option pp.deepTerms false
namespace K6
open PySem PySem.Spec PyProof.Rows L2 Lk
abbrev sInside : Stmt := top 73
abbrev sLIsLot : Stmt := top 74
abbrev sApart : Stmt := top 85
abbrev sLSure : Stmt := top 86
abbrev sAnyRec : Stmt := top 87
theorem fm_rowsE (q : List Str → Bool) : ∀ zs : List (V × List Str), (zs.filterMap fun z => if q z.2 = true then some z.1 else none) = (zs.filter fun z => q z.2).map (·.1)
  | [] => rfl
  | z :: zs => by
    have ih := fm_rowsE q zs
    rw [List.filterMap_cons]
    by_cases h : q z.2 = true
    · rw [if_pos h, List.filter_cons_of_pos (p := fun z : V × List Str => q z.2) h, List.map_cons, ih]
    · rw [if_neg h, List.filter_cons_of_neg (p := fun z : V × List Str => q z.2) h, ih]
theorem paired_ofE {α β : Type} {R : α → β → Prop} : ∀ {zs : List (α × β)}, (∀ z ∈ zs, R z.1 z.2) → Paired R (zs.map (·.1)) (zs.map (·.2))
  | [], _ => .nil
  | z :: zs, h => .cons (h z List.mem_cons_self) (paired_ofE fun y hy => h y (List.mem_cons_of_mem _ hy))
section
variable {P : Program} {w : World} {K : PySem.W.Frag} {mg : Str → Option Value} {base : Heap} {f : Addr} {fd : FuncData}
def spInside (K : PySem.W.Frag) : Sp := fun vs H Q _ => ∃ (p q : Addr) (ys zs : List Str), vs = [.ref p, .ref q] ∧ SqT K H p (ys.map V.str) ∧ SqT K H q (zs.map V.str) ∧ ys.length ≤ 1000 ∧ ∀ H', Same H H' → Q (.bl (ys.all fun y => decide (y ∈ zs))) H'
theorem scInside : FnScope ["one", "other", "name"] ["one", "other"] (defScope sInside) := ⟨rfl, rfl, rfl, by decide +kernel, rfl, by decide +kernel, by decide +kernel⟩
theorem ok_inside (F : Fun K "_law_is_inside" "_law_is_inside" sInside f fd) (T : Bl mg) : FnOk P w K mg base CX0 1 f fd ["one", "other"] (spInside K) := by
  refine F.ok scInside (fun vs H Q E h => ?_) (fun cdv A outer s H vs Q E hr h => ?_)
  · obtain ⟨p, q, ys, zs, rfl, _⟩ := h
    rfl
  · obtain ⟨p, q, ys, zs, rfl, hp, hq, few, k⟩ := h
    have nd := scInside.nd
    refine ⟨_, pss_one (ps_ret (pe_callB (cr_all rfl) (by rfl) T.all boot_all (pa_cons (pe_lc (own := [("name", 2)]) (g := gName 2) (tt := tYes) (te := tOp (rIn K false) (tVar 2) (tVar 1)) rfl nd (pi_tup (pv 0)) (blkOk_by (N := ["one", "other", "name"]) (sc := defScope sInside) (by decide +kernel))
        (fun _ _ _ _ _ => pg_name (i := 2) nd rfl (.inl rfl)) (fun _ _ _ _ _ => pts_nil) (fun _ _ _ _ _ => pe_cmpR op_in_seq (pv 2) (pv 1) rfl)) pa_nil))), ?_⟩
    refine ⟨_, rfl, p, rfl, ⟨_, hp⟩, fun D nD => lc_fm (walk_tup (a := p) (xs := ys.map V.str)) ys (fun y => some (V.bl (decide (y ∈ zs)))) (by rw [List.length_map]) (by rw [List.length_map]; omega) nD (fun H s => sqT_same s hp) ?_ ?_⟩
    · rintro i u y H2 H2' R Rn hy s2 ⟨rfl, hu⟩ k1 k2
      obtain rfl : V.str y = u := by
        rw [List.getElem?_map, hy] at hu
        exact Option.some.inj hu
      refine ⟨rfl, _, rfl, _, rfl, q, _, rfl, .inr (sqT_same s2 hq), rfl, flat_strs _, ?_⟩
      rw [inV_str]
      exact k1 _ _ rfl (Same.refl _)
    · intro H2 s2 eD
      rw [fm_some] at eD
      have e : (ys.map fun y => V.bl (decide (y ∈ zs))) = (ys.map fun y => decide (y ∈ zs)).map V.bl := by rw [List.map_map]; rfl
      rw [e] at eD
      refine ⟨D, _, rfl, SqL.of eD, ?_⟩
      have e2 : ((ys.map fun y => decide (y ∈ zs)).all id) = ys.all fun y => decide (y ∈ zs) := by rw [List.all_map]; rfl
      rw [e2]
      exact k _ s2

/-! ### _law_least_lots -/
def spLeastL (K : PySem.W.Frag) : Sp := fun vs H Q _ => ∃ (n l : Addr) (zs : List Str) (ts : List V) (sel : List (List Str)), vs = [.ref n, .ref l] ∧ SqT K H n (zs.map V.str) ∧ NmOk zs ∧ H l = some (.lst ts) ∧ Paired (RelT H) ts sel ∧ (∀ r ∈ sel, r.Sublist zs) ∧ sel.length ≤ 64 ∧
  ∀ q us rws H', Same H H' → H' q = some (.tup us) → Paired (RelT H') us (leastF (fun r => decide (r ∈ sel)) rws) → LotsOk zs rws → Q (.ref q) H'
abbrev nmLL : List Str := ["names", "some", "found", "lot", "other"]
end
end K6
set_option Elab.async false
set_option linter.all false
set_option maxRecDepth 100000
set_option maxHeartbeats 1500000
set_option pp.maxSteps 1200
set_option pp.deepTerms false
namespace K6
open PySem PySem.Spec PyProof.Rows L2 Lk
theorem tab_val {H : Hp} {L : Lore} : ∀ {kvs : List (L2.Key × V)} {vs : List Vec}, Paired (RelTb H L) kvs vs → vs.Nodup → ∀ v ∈ vs, ∃ a, valV kvs (.inr (stv v)) = some (.ref a) ∧ H a = some (.lst (rowV L v))
  | _, _, .nil, _, v, h => by cases h
  | (k, x) :: kvs, u :: vs, .cons ⟨h1, a, h2, h3⟩ t, nd, v, h => by
    dsimp only at h1 h2
    subst h1 h2
    rw [List.nodup_cons] at nd
    by_cases e : u = v
    · subst e
      exact ⟨a, by unfold valV; simp, h3⟩
    · obtain ⟨b, g1, g2⟩ := tab_val t nd.2 v ((List.mem_cons.mp h).resolve_left (fun z => e z.symm))
      refine ⟨b, ?_, g2⟩
      unfold valV at g1 ⊢
      rw [List.find?_cons_of_neg]
      · exact g1
      · simp only [decide_eq_true_eq]
        exact fun z => e (stv_inj (Sum.inr.inj z))
theorem fm_kps (q : KP → Bool) : ∀ ks : List KP, (ks.filterMap fun k => if q k = true then some (V.str k.1) else none) = ((ks.filter q).map (·.1)).map V.str
  | [] => rfl
  | k :: ks => by
    have ih := fm_kps q ks
    by_cases m : q k = true
    · rw [List.filterMap_cons, if_pos m, List.filter_cons_of_pos m, List.map_cons, List.map_cons, ih]
    · rw [List.filterMap_cons, if_neg m, List.filter_cons_of_neg m, ih]
section
variable {P : Program} {w : World} {K : PySem.W.Frag} {mg : Str → Option Value} {base : Heap} {f : Addr} {fd : FuncData}
/-! ### _law_is_lot -/
def spLIsLot (K : PySem.W.Frag) : Sp := fun vs H Q _ => ∃ (n d : Addr) (zs row : List Str), vs = [.ref n, .ref d] ∧ SqT K H n (zs.map V.str) ∧ NmOk zs ∧ H d = some (.tup (row.map V.str)) ∧ row.Sublist zs ∧ ∀ H', Same H H' → Q (.bl true) H'
theorem scLIsLot : FnScope ["names", "value", "name"] ["names", "value"] (defScope sLIsLot) := ⟨rfl, rfl, rfl, by decide +kernel, rfl, by decide +kernel, by decide +kernel⟩
theorem ok_lIsLot {f1 : Addr} {fd1 : FuncData} (F : Fun K "_law_is_lot" "_law_is_lot" sLIsLot f fd) (T : Bl mg) (Cc : Cn mg)
    (G1 : FnOk P w K mg base CX0 1 f1 fd1 ["names", "some"] (spLotOf K)) (a1 : At K mg "_law_lot_of" f1 fd1 ["names", "some"]) :
    FnOk P w K mg base CX0 2 f fd ["names", "value"] (spLIsLot K) := by
  refine F.ok scLIsLot (fun vs H Q E h => ?_) (fun cdv A outer s H vs Q E hr h => ?_)
  · obtain ⟨n, d, zs, row, rfl, _⟩ := h
    rfl
  · obtain ⟨n, d, zs, row, rfl, hn, nk, ed, rs, k⟩ := h
    have nd := scLIsLot.nd
    refine ⟨_, pss_cons (ps_if (PW.pt (pw_or (pt_not (pt_val (pe_callB call_isi (by rfl) T.isin boot_isinstance (pa_cons (pv 1) (pa_cons (pe_bltn (v := .ty "tuple") (by rfl) Cc.tuple rfl rfl) pa_nil)))))
          (pw_or1 (pt_not (pt_val (pe_callB (cr_all rfl) (by rfl) T.all boot_all (pa_cons (pe_lc (own := [("name", 2)]) (g := gName 2) (tt := tYes) (te := tCB (rIsi K) (tCons (tVar 2) (tCons (tC (.ty "str")) tNil))) rfl nd (pi_tup (pv 1))
            (blkOk_by (N := ["names", "value", "name"]) (sc := defScope sLIsLot) (by decide +kernel)) (fun _ _ _ _ _ => pg_name (i := 2) nd rfl (.inl rfl)) (fun _ _ _ _ _ => pts_nil)
            (fun _ _ _ _ _ => pe_callB call_isi (by rfl) T.isin boot_isinstance (pa_cons (pv 2) (pa_cons (pe_bltn (v := .ty "str") (by rfl) Cc.str rfl rfl) pa_nil)))) pa_nil))))))) pss_no pss_nil)
      (pss_one (ps_ret (pe_cmpR (op_eqD (room64 hr)) (pv 1) (pe_call G1 hr (by rfl) a1.m a1.kp a1.b .nil pass0 (pa_cons (pv 0) (pa_cons (pv 1) pa_nil))) (nomark _)))), ?_⟩
    have r6 : row.length ≤ 6 := Nat.le_trans rs.length_le nk.k6
    refine ⟨_, rfl, _, _, _, _, true, rfl, .ty _, .base (.tup ed), by rfl, _, rfl, iteB rfl ?_⟩
    refine ⟨_, rfl, d, rfl, ⟨_, SqT.of ed⟩, all_over (walk_tup (a := d) (xs := row.map V.str)) row V.str (fun _ => true) rfl (by omega) (fun H s => sqT_same s (SqT.of ed)) ?_ ?_⟩
    · rintro i b H6 R hb s6 kk
      exact ⟨rfl, _, rfl, _, _, _, _, true, rfl, .ty _, .base (.str _), by rfl, kk _ (Same.refl _)⟩
    · intro H6 s6
      have e : row.all (fun _ => true) = true := List.all_eq_true.mpr fun _ _ => rfl
      rw [e]
      refine ⟨_, rfl, iteB rfl ?_⟩
      have ed6 := s6 _ _ ed
      refine ⟨_, rfl, _, rfl, _, rfl, n, d, zs, row, rfl, .inr (sqT_same s6 hn), .inr (SqT.of ed6), by have := nk.k6; omega, fun p H7 s7 np ep => ?_⟩
      rw [sub_filterG rs nk.nd] at ep
      have nr := nice_lot nk rs
      refine ⟨.tuple (strsD row), .tuple (strsD row), .tup (SqT.of (s7 _ _ ed6)) (dp_strs _), .tup (SqT.of ep) (dp_strs _), nr.shaped (by decide), nr.shaped (by decide), ?_⟩
      rw [nr.eqv]
      exact k _ (s6.trans s7)
/-! ### _law_apart -/
def spApart (K : PySem.W.Frag) : Sp := fun vs H Q _ => ∃ (lo tb t : Addr) (L : Lore) (ys : List Str) (v u : Vec), vs = [.ref lo, .ref tb, .str (stv v), .str (stv u), .ref t] ∧ LoreAt H lo L ∧ LoreOk L ∧ TabAt H tb L ∧ SqT K H t (ys.map V.str) ∧ v.length = L.parts.length ∧ u.length = L.parts.length ∧
  ∀ p H', Same H H' → H' p = some (.tup ((apartL L ys v u).map V.str)) → Q (.ref p) H'
abbrev nmAp : List Str := ["lore", "table", "one", "other", "lot", "names", "marks", "mine", "its", "name", "mark"]
theorem scApart : FnScope nmAp ["lore", "table", "one", "other", "lot"] (defScope sApart) := ⟨rfl, rfl, rfl, by decide +kernel, rfl, by decide +kernel, by decide +kernel⟩
theorem ok_apart (F : Fun K "_law_apart" "_law_apart" sApart f fd) (Cc : Cn mg) : FnOk P w K mg base CX0 1 f fd ["lore", "table", "one", "other", "lot"] (spApart K) := by
  refine F.ok scApart (fun vs H Q E h => ?_) (fun cdv A outer s H vs Q E hr h => ?_)
  · obtain ⟨lo, tb, t, L, ys, v, u, rfl, _⟩ := h
    rfl
  · obtain ⟨lo, tb, t, L, ys, v, u, rfl, la, ok, ta, ht, vl, ul, k⟩ := h
    have nd := scApart.nd
    have hu := hu_of hr
    refine ⟨_, pss_cons (ps_set (i := 5) nd rfl (.inl rfl) (pe_dget hu (pv 0) pe_str (fun _ _ => rfl)))
      (pss_cons (ps_setLc (i := 6) (own := [("mine", 7), ("its", 8)]) (g := gTup K 2 (gCons (gName 7) (gCons (gName 8) gNil))) (tt := tYes) (te := tOp rNe (tVar 7) (tVar 8)) rfl nd rfl rfl (sw_true rfl rfl rfl (by decide +kernel))
          (pi_zipS (by rfl) Cc.zip (pa_cons (pe_dget hu (pv 1) (pv 2) (fun _ _ => rfl)) (pa_cons (pe_dget hu (pv 1) (pv 3) (fun _ _ => rfl)) pa_nil))) (blkOk_by (N := nmAp) (sc := defScope sApart) (by decide +kernel))
          (fun _ _ _ _ _ => pg_tup rfl (pgs_cons (pg_name (i := 7) nd rfl (.inl rfl)) (pgs_cons (pg_name (i := 8) nd rfl (.inl rfl)) pgs_nil))) (fun _ _ _ _ _ => pts_nil) (fun _ _ _ _ _ => pe_cmpR op_ne (pv 7) (pv 8) (nomark _)))
      (pss_one (ps_ret (pe_tupleOf (by rfl) Cc.tuple (pe_lc (own := [("name", 9), ("mark", 10)]) (g := gTup K 2 (gCons (gName 9) (gCons (gName 10) gNil))) (tt := tAnd (tB (tVar 10)) (tTest (tOp (rIn K false) (tVar 9) (tVar 4)))) (te := tVar 9) rfl nd
          (pi_zipS (by rfl) Cc.zip (pa_cons (pv 5) (pa_cons (pv 6) pa_nil))) (blkOk_by (N := nmAp) (sc := defScope sApart) (by decide +kernel))
          (fun _ _ _ _ _ => pg_tup rfl (pgs_cons (pg_name (i := 9) nd rfl (.inl rfl)) (pgs_cons (pg_name (i := 10) nd rfl (.inl rfl)) pgs_nil))) (fun _ _ _ _ _ => pts_one (PW.pt (pw_and (pt_val (pv 10)) (pw_and1 (pt_cmpR op_in_seq (pv 9) (pv 4) rfl))))) (fun _ _ _ _ _ => pv 9)))))), ?_⟩
    obtain ⟨pa, nm, pt, rows, e1, e2, e3, e4, e5⟩ := id la
    obtain ⟨kvs, et, pt2⟩ := id ta
    obtain ⟨ra, hra, era⟩ := tab_val pt2 (nodup_vL _) v (mem_vL.mpr vl)
    obtain ⟨rb, hrb, erb⟩ := tab_val pt2 (nodup_vL _) u (mem_vL.mpr ul)
    have k6 := ok.k6
    refine ⟨_, rfl, lo, _, rfl, (dget3 e1).2.1, ?_⟩
    have rvl : ∀ x : Vec, (rowV L x).length = L.kps.length := fun x => List.length_map ..
    refine ⟨_, rfl, _, rfl, tb, _, rfl, .inl ⟨_, .inr (stv v), .inl et, rfl, hra.symm⟩, _, rfl, _, rfl, tb, _, rfl, .inl ⟨_, .inr (stv u), .inl et, rfl, hrb.symm⟩, .lst ra, .lst rb, rowV L v, rowV L u, rfl, SqL.of era, SqL.of erb, fun D nD => ?_⟩
    refine lc_fm (walk_zipS (s1 := .lst ra) (s2 := .lst rb) (n := L.kps.length) (by rw [rvl, rvl, Nat.min_self])) L.kps (fun q => some (V.bl (!decide (ansV L q v = ansV L q u)))) rfl (by omega) nD (fun H' s' => ⟨SqL.of (s' _ _ era), SqL.of (s' _ _ erb)⟩) ?_ ?_
    · rintro i y kq H1 H1' R Rn hk s1 ⟨T1, b1, b2, rfl, nT, rfl, f1, f2⟩ k1 k2
      obtain rfl : V.str (stv (ansV L kq v)) = b1 := by
        have f1 : (rowV L v)[i]? = some b1 := f1
        unfold rowV at f1
        rw [List.getElem?_map, hk] at f1
        exact Option.some.inj f1
      obtain rfl : V.str (stv (ansV L kq u)) = b2 := by
        have f2 : (rowV L u)[i]? = some b2 := f2
        unfold rowV at f2
        rw [List.getElem?_map, hk] at f2
        exact Option.some.inj f2
      refine ⟨T1, _, rfl, SqT.of upd_same, rfl, _, _, rfl, _, _, rfl, rfl, rfl, _, rfl, _, rfl, rfl, ?_⟩
      rw [strDec]
      exact k1 _ _ rfl (same_new nT)
    intro H1 s1 eD
    rw [fm_some] at eD
    have e31 := e3.same s1
    have ml : (L.kps.map fun q => V.bl (!decide (ansV L q v = ansV L q u))).length = L.kps.length := List.length_map ..
    refine ⟨_, rfl, _, rfl, .tup nm, .lst D, (L.kps.map fun k : KP => k.1).map V.str, _, rfl, e31.sq, SqL.of eD, fun G nG => ?_⟩
    refine lc_fm (walk_zipS (s1 := .tup nm) (s2 := .lst D) (n := L.kps.length) (by rw [ml, List.length_map, List.length_map, Nat.min_self])) L.kps (fun q => if (!decide (ansV L q v = ansV L q u) && decide (q.1 ∈ ys)) = true then some (V.str q.1) else none) rfl (by omega) nG (fun H' s' => ⟨(e31.same s').sq, SqL.of (s' _ _ eD)⟩) ?_ ?_
    · rintro i y kq H2 H2' R Rn hk s2 ⟨T1, b1, b2, rfl, nT, rfl, f1, f2⟩ k1 k2
      obtain rfl : V.str kq.1 = b1 := by
        have f1 : ((L.kps.map (·.1)).map V.str)[i]? = some b1 := f1
        rw [List.getElem?_map, List.getElem?_map, hk] at f1
        exact Option.some.inj f1
      obtain rfl : V.bl (!decide (ansV L kq v = ansV L kq u)) = b2 := by
        have f2 : (L.kps.map fun q => V.bl (!decide (ansV L q v = ansV L q u)))[i]? = some b2 := f2
        rw [List.getElem?_map, hk] at f2
        exact Option.some.inj f2
      refine ⟨T1, _, rfl, SqT.of upd_same, rfl, _, _, rfl, _, _, rfl, rfl, rfl, ?_⟩
      have sT : Same H2 (upd H2 T1 (.tup [.str kq.1, .bl (!decide (ansV L kq v = ansV L kq u))])) := same_new nT
      refine ⟨_, rfl, _, rfl, ?_⟩
      cases h1 : (!decide (ansV L kq v = ansV L kq u)) with
      | false =>
        refine iteB rfl (iteF (k2 _ (if_neg (by rw [h1]; simp)) ?_))
        rw [h1] at sT
        exact sT
      | true =>
        rw [h1] at sT
        refine iteT ?_
        refine ⟨_, rfl, _, rfl, t, _, rfl, .inr (sqT_same (s1.trans (s2.trans sT)) ht), rfl, flat_strs _, _, rfl, ?_⟩
        rw [inV_str]
        by_cases h2 : kq.1 ∈ ys
        · exact iteA (by simp [h2]) ⟨_, rfl, k1 _ _ (if_pos (by rw [h1, decide_eq_true h2]; rfl)) sT⟩
        · exact iteB (by simp [h2]) (k2 _ (if_neg (by rw [decide_eq_false h2, Bool.and_false]; decide)) sT)
    intro H2 s2 eG
    rw [fm_kps (fun q => !decide (ansV L q v = ansV L q u) && decide (q.1 ∈ ys))] at eG
    refine .inl ⟨G, _, rfl, SqL.of eG, fun p np => ?_⟩
    exact k p _ ((s1.trans s2).trans (same_new np)) upd_same
/-! ### _law_is_sure -/
def spLSure (K : PySem.W.Frag) : Sp := fun vs H Q _ => ∃ (lo tb t : Addr) (L : Lore) (ys : List Str) (n : Nat), vs = [.ref lo, .ref tb, .ref t, .int (n : Int)] ∧ LoreAt H lo L ∧ LoreOk L ∧ TabAt H tb L ∧ SqT K H t (ys.map V.str) ∧ n ≤ 3 ∧ ∀ H', Same H H' → Q (.bl (sureL L ys n)) H'
abbrev nmLS : List Str := ["lore", "table", "lot", "bound", "all_records", "at", "one", "other"]
theorem scLSure : FnScope nmLS ["lore", "table", "lot", "bound"] (defScope sLSure) := ⟨rfl, rfl, rfl, by decide +kernel, rfl, by decide +kernel, by decide +kernel⟩
theorem ok_lSure {f1 f2 : Addr} {fd1 fd2 : FuncData} (F : Fun K "_law_is_sure" "_law_is_sure" sLSure f fd) (T : Bl mg)
    (G1 : FnOk P w K mg base CX0 1 f1 fd1 ["lore"] spRecords) (a1 : At K mg "_law_records" f1 fd1 ["lore"])
    (G2 : FnOk P w K mg base CX0 1 f2 fd2 ["lore", "table", "one", "other", "lot"] (spApart K)) (a2 : At K mg "_law_apart" f2 fd2 ["lore", "table", "one", "other", "lot"]) :
    FnOk P w K mg base CX0 2 f fd ["lore", "table", "lot", "bound"] (spLSure K) := by
  refine F.ok scLSure (fun vs H Q E h => ?_) (fun cdv A outer s H vs Q E hr h => ?_)
  · obtain ⟨lo, tb, t, L, ys, n, rfl, _⟩ := h
    rfl
  · obtain ⟨lo, tb, t, L, ys, n, rfl, la, ok, ta, ht, n3, k⟩ := h
    have nd := scLSure.nd
    refine ⟨_, pss_cons (ps_set (i := 4) nd rfl (.inl rfl) (pe_call G1 hr (by rfl) a1.m a1.kp a1.b .nil pass0 (pa_cons (pv 0) pa_nil)))
      (pss_cons (ps_for PassesOwn.never rfl (pi_enum (by rfl) T.enum (pa_cons (pv 4) pa_nil)) (pg_tup rfl (pgs_cons (pg_name (i := 5) nd rfl (.inl rfl)) (pgs_cons (pg_name (i := 6) nd rfl (.inl rfl)) pgs_nil)))
          (pss_one (ps_for PassesOwn.never rfl (pi_list (pe_slice sl_list (pv 4) po_none (po_some (pv 5)))) (pg_name (i := 7) nd rfl (.inl rfl))
            (pss_one (ps_if (pt_cmpR op_le (pe_callB call_len_seq (by rfl) T.len PySem.boot_len (pa_cons (pe_call G2 hr (by rfl) a2.m a2.kp a2.b .nil pass0 (pa_cons (pv 0) (pa_cons (pv 1) (pa_cons (pv 6) (pa_cons (pv 7) (pa_cons (pv 2) pa_nil)))))) pa_nil)) (pe_op op_mul pe_int (pv 3)) (nomark _)) (pss_one (ps_ret pe_bl)) pss_nil)))))
      (pss_one (ps_ret pe_bl))), ?_⟩
    have r16 := recs16 ok
    have em : (recsL L).map V.str = (vL L.parts.length).map fun v => V.str (stv v) := by unfold recsL; rw [List.map_map]; rfl
    refine ⟨_, rfl, lo, L, rfl, la, ok.p4, fun p H1 s1 np ep => ?_⟩
    rw [em] at ep
    obtain ⟨vs, hvs⟩ : ∃ vs, vs = vL L.parts.length := ⟨_, rfl⟩
    rw [← hvs] at ep r16
    have vnd : vs.Nodup := by rw [hvs]; exact nodup_vL _
    have vlen : ∀ v ∈ vs, v.length = L.parts.length := fun v hv => mem_vL.mp (by rw [hvs] at hv; exact hv)
    refine ⟨_, rfl, p, _, rfl, SqL.of ep, for_it (walk_enum (xs := vs.map fun v => V.str (stv v))) (fun i σ H' => ∃ u5 u6 u7, σ = [some (.ref lo), some (.ref tb), some (.ref t), some (.int (n : Int)), some (.ref p), u5, u6, u7] ∧ Same H1 H' ∧ ∀ v ∈ vs.take i, ∀ u ∈ vs.take i, v ≠ u → 2 * n < (apartL L ys v u).length) ⟨none, none, none, rfl, Same.refl _, fun _ h => by cases h⟩ (fun i σ H' _ ⟨_, _, _, _, s', _⟩ => SqL.of (s' _ _ ep)) ?_ ?_⟩
    · rintro i x σ H2 H3 hi ⟨u5, u6, u7, rfl, s2, good⟩ ⟨t2, b1, b2, rfl, nt, rfl, e1, e2⟩
      obtain rfl := Option.some.inj e1
      obtain ⟨v, hv, rfl⟩ : ∃ v, vs[i]? = some v ∧ b2 = .str (stv v) := by
        have e2 : (vs.map fun v => V.str (stv v))[i]? = some b2 := e2
        rw [List.getElem?_map] at e2
        cases e : vs[i]? with
        | none => rw [e] at e2; cases e2
        | some z => rw [e] at e2; exact ⟨z, rfl, (Option.some.inj e2).symm⟩
      have vl := vlen v (List.mem_of_getElem? hv)
      have s3 : Same H1 (upd H2 t2 (.tup [.int (i : Nat), .str (stv v)])) := s2.trans (same_new nt)
      refine ⟨t2, _, rfl, SqT.of upd_same, rfl, _, _, rfl, _, _, rfl, rfl, ?_⟩
      generalize upd H2 t2 (.tup [.int (i : Nat), .str (stv v)]) = H4 at s3 ⊢
      have il : i < vs.length := (List.getElem?_eq_some_iff.mp hv).1
      refine ⟨_, rfl, _, rfl, _, rfl, p, _, rfl, SqL.of (s3 _ _ ep), fun q nq => ?_⟩
      rw [cutT _ i (by rw [List.length_map]; omega), ← List.map_take]
      have s4 : Same H4 (upd H4 q (.lst ((vs.take i).map fun v => V.str (stv v)))) := same_new nq
      have eq := upd_same (H := H4) (a := q) (o := HO.lst ((vs.take i).map fun v => V.str (stv v)))
      generalize upd H4 q (.lst ((vs.take i).map fun v => V.str (stv v))) = H5 at s4 eq ⊢
      have s5 := s3.trans s4
      refine ⟨q, rfl, ⟨_, SqL.of eq⟩, for_list (xs := (vs.take i).map fun v => V.str (stv v)) (fun j σ H' => ∃ u7, σ = [some (.ref lo), some (.ref tb), some (.ref t), some (.int (n : Int)), some (.ref p), some (.int (i : Nat)), some (.str (stv v)), u7] ∧ Same H5 H' ∧ ∀ u ∈ (vs.take i).take j, 2 * n < (apartL L ys v u).length) ?_ ?_ ?_ ?_⟩
      · exact ⟨_, rfl, Same.refl _, fun _ h => by cases h⟩
      · rintro j σ H' _ ⟨_, _, ss, _⟩
        exact SqL.of (ss _ _ eq)
      · rintro j y σ H' hy ⟨u7', rfl, ss, gj⟩
        obtain ⟨u, hu⟩ : ∃ u, (vs.take i)[j]? = some u := by
          rw [List.getElem?_map] at hy
          cases e : (vs.take i)[j]? with
          | none => rw [e] at hy; cases hy
          | some u => exact ⟨u, rfl⟩
        obtain rfl : V.str (stv u) = y := by
          rw [List.getElem?_map, hu] at hy
          exact Option.some.inj hy
        have um := List.mem_of_getElem? hu
        have ul := vlen u (List.mem_of_mem_take um)
        have sA := (s1.trans s5).trans ss
        refine ⟨_, rfl, _, rfl, _, rfl, _, rfl, _, rfl, lo, tb, t, L, ys, v, u, rfl, la.same sA, ok, ta.same sA, sqT_same sA ht, vl, ul, fun r H6 s6 er => ⟨r, _, rfl, .inr (SqT.of er), ?_⟩⟩
        refine ⟨_, rfl, _, _, rfl, rfl, .inl ⟨by decide, by decide⟩, _, _, rfl, rfl, _, rfl, ?_⟩
        rw [List.length_map]
        by_cases hb : (apartL L ys v u).length ≤ 2 * n
        · refine iteA (decide_eq_true (by omega)) ?_
          have e : sureL L ys n = false := by
            cases hs : sureL L ys n with
            | false => rfl
            | true =>
              have ne : v ≠ u := fun e => by
                subst e
                obtain ⟨m, hm, em2⟩ := List.getElem_of_mem um
                rw [List.length_take] at hm
                rw [List.getElem_take] at em2
                obtain ⟨hi2, ei2⟩ := List.getElem?_eq_some_iff.mp hv
                have := (List.getElem_inj (h₀ := by omega) (h₁ := hi2) vnd).mp (em2.trans ei2.symm)
                omega
              have := sureL_iff.mp hs v u vl ul ne
              omega
          have := k _ (sA.trans s6)
          rw [e] at this
          exact this
        · refine iteB (decide_eq_false (by omega)) ⟨_, rfl, ss.trans s6, fun x hx => ?_⟩
          rw [List.take_add_one, hu] at hx
          rcases List.mem_append.mp hx with hx | hx
          · exact gj x hx
          · rw [List.mem_singleton.mp hx]; omega
      · rintro σ H' ⟨u7', rfl, ss, gj⟩
        rw [List.length_map, List.take_length] at gj
        refine ⟨_, _, _, rfl, s5.trans ss, fun x hx y hy ne => ?_⟩
        rw [List.take_add_one, hv] at hx hy
        rcases List.mem_append.mp hx with hx | hx
        · rcases List.mem_append.mp hy with hy | hy
          · exact good x hx y hy ne
          · rw [List.mem_singleton.mp hy, apart_symm]
            exact gj x hx
        · rw [List.mem_singleton.mp hx] at ne ⊢
          rcases List.mem_append.mp hy with hy | hy
          · exact gj y hy
          · rw [List.mem_singleton.mp hy] at ne
            exact absurd rfl ne
    · rintro σ H2 ⟨u5, u6, u7, rfl, s2, good⟩
      rw [List.length_map, List.take_length] at good
      have e : sureL L ys n = true := sureL_iff.mpr fun v u vl ul ne => good v (by rw [hvs]; exact mem_vL.mpr vl) u (by rw [hvs]; exact mem_vL.mpr ul) ne
      have := k _ (s1.trans s2)
      rw [e] at this
      exact this
end
end K6
set_option Elab.async false
set_option linter.all false
set_option maxRecDepth 100000
set_option maxHeartbeats 1500000
set_option pp.maxSteps 1200
set_option pp.deepTerms false
namespace K6
open PySem PySem.Spec PyProof.Rows L2 Lk
abbrev sOpenT : Stmt := top 88
abbrev sLOver : Stmt := top 89
section
variable {P : Program} {w : World} {K : PySem.W.Frag} {mg : Str → Option Value} {base : Heap} {f : Addr} {fd : FuncData}
/-! ### _law_is_any_record -/
def spAny : Sp := fun vs H Q _ => ∃ (lo : Addr) (L : Lore) (v : Vec), vs = [.ref lo, .str (stv v)] ∧ LoreAt H lo L ∧ LoreOk L ∧ v.length = L.parts.length ∧ ∀ H', Same H H' → Q (.bl true) H'
theorem scAny : FnScope ["lore", "value"] ["lore", "value"] (defScope sAnyRec) := ⟨rfl, rfl, rfl, by decide +kernel, rfl, by decide +kernel, by decide +kernel⟩
theorem ok_any {f1 : Addr} {fd1 : FuncData} (F : Fun K "_law_is_any_record" "_law_is_any_record" sAnyRec f fd) (T : Bl mg) (Cc : Cn mg)
    (G1 : FnOk P w K mg base CX0 1 f1 fd1 ["lore"] spRecords) (a1 : At K mg "_law_records" f1 fd1 ["lore"]) :
    FnOk P w K mg base CX0 2 f fd ["lore", "value"] spAny := by
  refine F.ok scAny (fun vs H Q E h => ?_) (fun cdv A outer s H vs Q E hr h => ?_)
  · obtain ⟨lo, L, v, rfl, _⟩ := h
    rfl
  · obtain ⟨lo, L, v, rfl, la, ok, vl, k⟩ := h
    refine ⟨_, pss_one (ps_ret (pe_and (pe_callB call_isi (by rfl) T.isin boot_isinstance (pa_cons (pv 1) (pa_cons (pe_bltn (v := .ty "str") (by rfl) Cc.str rfl rfl) pa_nil)))
      (pe_one (pe_cmpR op_in_seq (pv 1) (pe_call G1 hr (by rfl) a1.m a1.kp a1.b .nil pass0 (pa_cons (pv 0) pa_nil)) rfl)))), ?_⟩
    refine ⟨_, rfl, _, _, _, _, true, rfl, .ty _, .base (.str _), by rfl, _, rfl, iteT ?_⟩
    refine ⟨_, rfl, _, rfl, lo, L, rfl, la, ok.p4, fun p H1 s1 np ep => ⟨p, _, rfl, .inl (SqL.of ep), rfl, flat_strs _, ?_⟩⟩
    rw [inV_str, decide_eq_true (show stv v ∈ recsL L from List.mem_map.mpr ⟨v, mem_vL.mpr vl, rfl⟩)]
    exact k _ s1
/-! ### _law_is_open_told -/
def spOpenT (K : PySem.W.Frag) : Sp := fun vs H Q _ => ∃ (lo tb t q d : Addr) (L : Lore) (ys row : List Str) (v u : Vec) (n : Nat), vs = [.ref lo, .ref tb, .ref t, .int (n : Int), .ref q] ∧ LoreAt H lo L ∧ LoreOk L ∧ TabAt H tb L ∧ SqT K H t (ys.map V.str) ∧
  H q = some (.tup [.str (stv v), .str (stv u), .ref d]) ∧ H d = some (.tup (row.map V.str)) ∧ v.length = L.parts.length ∧ u.length = L.parts.length ∧ v ≠ u ∧ row.Sublist (L.kps.map (·.1)) ∧ (row.all fun y => decide (y ∈ ys)) = true ∧ row.length ≤ 2 * n ∧ n ≤ 3 ∧ (∀ z ∈ apartL L ys v u, z ∈ row) ∧ ∀ H', Same H H' → Q (.bl true) H'
abbrev nmOT : List Str := ["lore", "table", "lot", "bound", "value", "one", "other", "gone"]
theorem scOpenT : FnScope nmOT ["lore", "table", "lot", "bound", "value"] (defScope sOpenT) := ⟨rfl, rfl, rfl, by decide +kernel, rfl, by decide +kernel, by decide +kernel⟩
theorem ok_openT {f1 f2 f3 f4 : Addr} {fd1 fd2 fd3 fd4 : FuncData} (F : Fun K "_law_is_open_told" "_law_is_open_told" sOpenT f fd) (T : Bl mg)
    (G1 : FnOk P w K mg base CX0 2 f1 fd1 ["lore", "value"] spAny) (a1 : At K mg "_law_is_any_record" f1 fd1 ["lore", "value"])
    (G2 : FnOk P w K mg base CX0 2 f2 fd2 ["names", "value"] (spLIsLot K)) (a2 : At K mg "_law_is_lot" f2 fd2 ["names", "value"])
    (G3 : FnOk P w K mg base CX0 1 f3 fd3 ["one", "other"] (spInside K)) (a3 : At K mg "_law_is_inside" f3 fd3 ["one", "other"])
    (G4 : FnOk P w K mg base CX0 1 f4 fd4 ["lore", "table", "one", "other", "lot"] (spApart K)) (a4 : At K mg "_law_apart" f4 fd4 ["lore", "table", "one", "other", "lot"]) :
    FnOk P w K mg base CX0 3 f fd ["lore", "table", "lot", "bound", "value"] (spOpenT K) := by
  refine F.ok scOpenT (fun vs H Q E h => ?_) (fun cdv A outer s H vs Q E hr h => ?_)
  · obtain ⟨lo, tb, t, q, d, L, ys, row, v, u, n, rfl, _⟩ := h
    rfl
  · obtain ⟨lo, tb, t, q, d, L, ys, row, v, u, n, rfl, la, ok, ta, ht, eq, ed, vl, ul, ne, rs, hin, rl, n3, hap, k⟩ := h
    have nd := scOpenT.nd
    have hu := hu_of hr
    have hr1 : Room 1 _ := hr.mono (by decide)
    refine ⟨_, pss_cons (ps_asg (pv 4) (pg_tup rfl (pgs_cons (pg_name (i := 5) nd rfl (.inl rfl)) (pgs_cons (pg_name (i := 6) nd rfl (.inl rfl)) (pgs_cons (pg_name (i := 7) nd rfl (.inl rfl)) pgs_nil)))))
      (pss_cons (ps_if (PW.pt (pw_or (pt_not (pt_val (pe_call G1 hr (by rfl) a1.m a1.kp a1.b .nil pass0 (pa_cons (pv 0) (pa_cons (pv 5) pa_nil))))) (pw_or (pt_not (pt_val (pe_call G1 hr (by rfl) a1.m a1.kp a1.b .nil pass0 (pa_cons (pv 0) (pa_cons (pv 6) pa_nil))))) (pw_or1 (pt_cmpR op_eq (pv 5) (pv 6) (nomark _)))))) pss_no pss_nil)
      (pss_cons (ps_if (PW.pt (pw_or (pt_not (pt_val (pe_call G2 hr (by rfl) a2.m a2.kp a2.b .nil pass0 (pa_cons (pe_dget hu (pv 0) pe_str (fun _ _ => rfl)) (pa_cons (pv 7) pa_nil))))) (pw_or (pt_not (pt_val (pe_call G3 hr1 (by rfl) a3.m a3.kp a3.b .nil pass0 (pa_cons (pv 7) (pa_cons (pv 2) pa_nil))))) (pw_or1 (pt_cmpR op_gt (pe_callB call_len_seq (by rfl) T.len PySem.boot_len (pa_cons (pv 7) pa_nil)) (pe_op op_mul pe_int (pv 3)) (nomark _)))))) pss_no pss_nil)
      (pss_one (ps_ret (pe_call G3 hr1 (by rfl) a3.m a3.kp a3.b .nil pass0 (pa_cons (pe_call G4 hr1 (by rfl) a4.m a4.kp a4.b .nil pass0 (pa_cons (pv 0) (pa_cons (pv 1) (pa_cons (pv 5) (pa_cons (pv 6) (pa_cons (pv 2) pa_nil)))))) (pa_cons (pv 7) pa_nil))))))), ?_⟩
    have k6 := ok.k6
    have r6 : row.length ≤ 6 := Nat.le_trans rs.length_le (by rw [List.length_map]; exact k6)
    refine ⟨_, rfl, q, _, rfl, .inl (.inl eq), rfl, _, _, rfl, _, _, rfl, _, _, rfl, rfl, ?_⟩
    refine ⟨_, rfl, _, rfl, lo, L, v, rfl, la, ok, vl, fun H1 s1 => ⟨_, rfl, iteB rfl ?_⟩⟩
    refine ⟨_, rfl, _, rfl, lo, L, u, rfl, la.same s1, ok, ul, fun H2 s2 => ⟨_, rfl, iteB rfl ?_⟩⟩
    refine ⟨_, rfl, _, rfl, rfl, _, rfl, ?_⟩
    rw [strDec, decide_eq_false ne]
    refine iteB rfl ?_
    have s12 := s1.trans s2
    have la2 := la.same s12
    obtain ⟨pa, nm, pt, rows, e1, e2, e3, e4, e5⟩ := id la2
    refine ⟨_, rfl, lo, _, rfl, (dget3 e1).2.1, _, rfl, nm, d, L.kps.map (fun k : KP => k.1), row, rfl, e3.sq, nmOk ok, s12 _ _ ed, rs, fun H3 s3 => ⟨_, rfl, iteB rfl ?_⟩⟩
    have s13 := s12.trans s3
    refine ⟨_, rfl, _, rfl, d, t, row, ys, rfl, SqT.of (s13 _ _ ed), sqT_same s13 ht, by omega, fun H4 s4 => ⟨_, rfl, ?_⟩⟩
    rw [hin]
    refine iteB rfl ?_
    have s14 := s13.trans s4
    refine ⟨_, rfl, d, _, rfl, .inr (SqT.of (s14 _ _ ed)), _, rfl, _, _, rfl, rfl, .inl ⟨by decide, by decide⟩, _, _, rfl, rfl, _, rfl, ?_⟩
    rw [List.length_map]
    refine iteB (decide_eq_false (by omega)) ?_
    refine ⟨_, rfl, _, rfl, _, rfl, _, rfl, _, rfl, lo, tb, t, L, ys, v, u, rfl, la.same s14, ok, ta.same s14, sqT_same s14 ht, vl, ul, fun p H5 s5 ep => ?_⟩
    have s15 := s14.trans s5
    have al : (apartL L ys v u).length ≤ 6 := Nat.le_trans (apart_sub L ys v u).length_le (by rw [List.length_map]; exact k6)
    refine ⟨_, rfl, p, d, _, row, rfl, SqT.of ep, SqT.of (s15 _ _ ed), by omega, fun H6 s6 => ?_⟩
    have e : ((apartL L ys v u).all fun y => decide (y ∈ row)) = true := List.all_eq_true.mpr fun z hz => decide_eq_true (hap z hz)
    rw [e]
    exact k _ (s15.trans s6)
/-! ### _law_is_overruled -/
def spLOver (K : PySem.W.Frag) : Sp := fun vs H Q _ => ∃ (lo tb t q : Addr) (L : Lore) (ys : List Str) (n : Nat), vs = [.ref lo, .ref tb, .ref t, .int (n : Int), .ref q] ∧ LoreAt H lo L ∧ LoreOk L ∧ TabAt H tb L ∧ SqT K H t (ys.map V.str) ∧ ys.Sublist (L.kps.map (·.1)) ∧ n ≤ 3 ∧ OverAt H q L ys n ∧ ∀ H', Same H H' → Q (.bl true) H'
theorem scLOver : FnScope ["lore", "table", "lot", "bound", "value"] ["lore", "table", "lot", "bound", "value"] (defScope sLOver) := ⟨rfl, rfl, rfl, by decide +kernel, rfl, by decide +kernel, by decide +kernel⟩
theorem ok_lOver {f1 f2 : Addr} {fd1 fd2 : FuncData} (F : Fun K "_law_is_overruled" "_law_is_overruled" sLOver f fd) (T : Bl mg) (Cc : Cn mg)
    (G1 : FnOk P w K mg base CX0 2 f1 fd1 ["lore", "table", "lot", "bound"] (spLSure K)) (a1 : At K mg "_law_is_sure" f1 fd1 ["lore", "table", "lot", "bound"])
    (G2 : FnOk P w K mg base CX0 3 f2 fd2 ["lore", "table", "lot", "bound", "value"] (spOpenT K)) (a2 : At K mg "_law_is_open_told" f2 fd2 ["lore", "table", "lot", "bound", "value"]) :
    FnOk P w K mg base CX0 4 f fd ["lore", "table", "lot", "bound", "value"] (spLOver K) := by
  refine F.ok scLOver (fun vs H Q E h => ?_) (fun cdv A outer s H vs Q E hr h => ?_)
  · obtain ⟨lo, tb, t, q, L, ys, n, rfl, _⟩ := h
    rfl
  · obtain ⟨lo, tb, t, q, L, ys, n, rfl, la, ok, ta, ht, ysub, n3, ov, k⟩ := h
    have nd := scLOver.nd
    have hu64 := room64 hr
    have hr2 : Room 2 _ := hr.mono (by decide)
    refine ⟨_, pss_cons (ps_if (PW.pt (pw_or (pt_not (pt_val (pe_callB call_isi (by rfl) T.isin boot_isinstance (pa_cons (pv 4) (pa_cons (pe_bltn (v := .ty "tuple") (by rfl) Cc.tuple rfl rfl) pa_nil))))) (pw_or (pt_cmpR (op_eqD hu64) (pv 4) (pe_tup pa_nil) (nomark _))
            (pw_or1 (pt_not (pt_val (pe_callB call_isi (by rfl) T.isin boot_isinstance (pa_cons (pe_ix ix_tup (pv 4) pe_int (fun _ _ => rfl)) (pa_cons (pe_bltn (v := .ty "str") (by rfl) Cc.str rfl rfl) pa_nil))))))))) pss_no pss_nil)
      (pss_cons (ps_if (pt_cmpR op_eq (pe_ix ix_tup (pv 4) pe_int (fun _ _ => rfl)) pe_str (nomark _)) (pss_one (ps_ret (pe_and (pe_cmpR op_eq (pe_callB call_len_seq (by rfl) T.len PySem.boot_len (pa_cons (pv 4) pa_nil)) pe_int (nomark _)) (pe_one (pe_call G1 hr2 (by rfl) a1.m a1.kp a1.b .nil pass0 (pa_cons (pv 0) (pa_cons (pv 1) (pa_cons (pv 2) (pa_cons (pv 3) pa_nil))))))))) pss_nil)
      (pss_one (ps_ret (pe_and (pe_cmpR op_eq (pe_ix ix_tup (pv 4) pe_int (fun _ _ => rfl)) pe_str (nomark _)) (pe_and (pe_cmpR op_eq (pe_callB call_len_seq (by rfl) T.len PySem.boot_len (pa_cons (pv 4) pa_nil)) pe_int (nomark _))
          (pe_one (pe_call G2 hr (by rfl) a2.m a2.kp a2.b .nil pass0 (pa_cons (pv 0) (pa_cons (pv 1) (pa_cons (pv 2) (pa_cons (pv 3) (pa_cons (pe_slice sl_tup (pv 4) (po_some pe_int) po_none) pa_nil)))))))))))), ?_⟩
    have k6 := ok.k6
    rcases ov with ⟨eq, hall⟩ | ⟨v, d, row, ks, eq, ed, vl, rs, hdub, ks1, ks2, hlost⟩
    · refine ⟨_, rfl, _, _, _, _, true, rfl, .ty _, .base (.tup eq), by rfl, _, rfl, iteB rfl ?_⟩
      refine ⟨_, rfl, few_ok rfl, fun e ne => ?_⟩
      have s1 := same_new (o := HO.tup []) ne
      have nS : Nice (1 * (8 + 1)) 1 (.tuple (strsD ["sure"])) := nice_strs (fun z hz => by
        rw [List.mem_singleton.mp hz]
        decide +kernel) (by decide)
      have eq1 := s1 _ _ eq
      refine ⟨.tuple (strsD ["sure"]), .tuple [], .tup (SqT.of eq1) (dp_strs ["sure"]), .tup (SqT.of upd_same) .nil, nS.shaped (by decide), by decide, _, rfl, ?_⟩
      rw [eqvT_nil]
      refine iteB (by simp) ?_
      refine ⟨_, rfl, q, _, _, _, rfl, rfl, SqT.of eq1, at0 rfl, _, _, _, _, true, rfl, .ty _, .base (.str _), by rfl, _, rfl, iteB rfl ?_⟩
      refine ⟨_, rfl, q, _, _, _, rfl, rfl, SqT.of eq1, at0 rfl, rfl, _, rfl, iteA (by simp) ?_⟩
      refine ⟨_, rfl, q, _, rfl, .inr (SqT.of eq1), rfl, _, rfl, iteA (by rfl) ?_⟩
      refine ⟨_, rfl, _, rfl, _, rfl, _, rfl, lo, tb, t, L, ys, n, rfl, la.same s1, ok, ta.same s1, sqT_same s1 ht, n3, fun H2 s2 => ?_⟩
      rw [dub_sure ok ysub hall]
      exact k _ (s1.trans s2)
    · refine ⟨_, rfl, _, _, _, _, true, rfl, .ty _, .base (.tup eq), by rfl, _, rfl, iteB rfl ?_⟩
      refine ⟨_, rfl, few_ok rfl, fun e ne => ?_⟩
      have s1 := same_new (o := HO.tup []) ne
      have eq1 := s1 _ _ eq
      have ed1 := s1 _ _ ed
      obtain ⟨nez, same⟩ := lost_zero hlost
      unfold dubB at hdub
      obtain ⟨d1, d2⟩ := Bool.and_eq_true_iff.mp hdub
      obtain ⟨d2, d3⟩ := Bool.and_eq_true_iff.mp d2
      have d1 := of_decide_eq_true d1
      have nO : Nice (4 * (6 * (8 + 1) + 1)) 2 (.tuple [.str "open", .str (stv (zv L.parts.length)), .str (stv v), .tuple (strsD row)]) := by
        have n1 : Nice (6 * (8 + 1)) 1 (.tuple (strsD row)) := nice_lot (nmOk ok) rs
        refine Nice.tup (fun d hd => ?_) (Nat.le_refl _)
        rcases List.mem_cons.mp hd with rfl | hd
        · exact (Nice.str (n := 8) (by decide +kernel) (by decide)).mono (by decide) (by decide)
        rcases List.mem_cons.mp hd with rfl | hd
        · exact (Nice.str (n := 8) (stv_nice ok (zv_len _)).1 (Nat.le_trans (stv_nice ok (zv_len _)).2 (by decide))).mono (by decide) (by decide)
        rcases List.mem_cons.mp hd with rfl | hd
        · exact (Nice.str (n := 8) (stv_nice ok vl).1 (Nat.le_trans (stv_nice ok vl).2 (by decide))).mono (by decide) (by decide)
        · rw [List.mem_singleton.mp hd]
          exact n1
      refine ⟨.tuple [.str "open", .str (stv (zv L.parts.length)), .str (stv v), .tuple (strsD row)], .tuple [], .tup (SqT.of eq1) (.cons (.str _) (.cons (.str _) (.cons (.str _) (.cons (.tup (SqT.of ed1) (dp_strs _)) .nil)))), .tup (SqT.of upd_same) .nil, nO.shaped (by decide), by decide, _, rfl, ?_⟩
      have ef : PyData.eqv (.tuple [.str "open", .str (stv (zv L.parts.length)), .str (stv v), .tuple (strsD row)]) (.tuple []) = false := by simp [PyData.eqv, PyData.eqvAll]
      rw [ef]
      refine iteB rfl ?_
      refine ⟨_, rfl, q, _, _, _, rfl, rfl, SqT.of eq1, at0 rfl, _, _, _, _, true, rfl, .ty _, .base (.str _), by rfl, _, rfl, iteB rfl ?_⟩
      refine ⟨_, rfl, q, _, _, _, rfl, rfl, SqT.of eq1, at0 rfl, rfl, _, rfl, iteB (by decide +kernel) ?_⟩
      refine ⟨_, rfl, q, _, _, _, rfl, rfl, SqT.of eq1, at0 rfl, rfl, _, rfl, iteA (by simp) ?_⟩
      refine ⟨_, rfl, q, _, rfl, .inr (SqT.of eq1), rfl, _, rfl, iteA (by rfl) ?_⟩
      refine ⟨_, rfl, _, rfl, _, rfl, _, rfl, _, rfl, ?_⟩
      refine ⟨1, rfl, q, _, rfl, SqT.of eq1, (show ¬ (HT.sIx 4 0 (some 1) = 0 ∧ HT.sIx 4 4 none = 4) by decide), fun p np => ?_⟩
      have s2 := same_new (o := HO.tup [.str (stv (zv L.parts.length)), .str (stv v), .ref d]) np
      have s12 := s1.trans s2
      refine ⟨lo, tb, t, p, d, L, ys, row, zv L.parts.length, v, n, rfl, la.same s12, ok, ta.same s12, sqT_same s12 ht, upd_same, s2 _ _ ed1, zv_len _, vl, (fun e => nez e.symm), rs, d2, by omega, n3, fun z hz => ?_, fun H' s' => k _ (s12.trans s')⟩
      rw [apart_symm] at hz
      exact apart_row ok ks1 ks2 same z hz
end
end K6
set_option Elab.async false
set_option linter.all false
set_option maxRecDepth 100000
set_option maxHeartbeats 1500000
/-! a dict is no tuple: d == t -/
namespace Lk
open PySem PySem.Spec PyProof.Rows L2 PySem.SeqAt PySem.MeetsSeq
open PySem.AutoSeq1 (wpAny_loadPart')
theorem tuple_eq_declines_dict (l b : Addr) (items : Array Value) (n : Nat) (dd : Option Addr) (sl : Array (Option Value)) (o2 : Obj) (hc : o2.cls = .type "dict") :
    Meets (Builtin.«tuple.__eq__» ⟨[.ref l, .ref b], []⟩) (fun _ R s => s.heap.get? l = some { cls := .type "tuple", dict := dd, data := .seq items n, slots := sl } ∧ s.heap.get? b = some o2 ∧ R (.ok (.ret .notImplemented)) s) := by
  obtain ⟨cls, d2, data2, slots2⟩ := o2
  dsimp only at hc
  subst hc
  exact .of_wp fun prog w A R s h => by obtain ⟨hp, g, d, tk, os⟩ := s; obtain ⟨hl, hb, h⟩ := h; have f1 := F.sub_dict_tuple; wp_walk using wpAny_loadPart' hl, wpAny_loadPart' hb; exact ⟨_, rfl, h⟩
section
variable {prog : Program} {w : World} {A : Around} {E : Value → Shared → Prop} {s : Shared}
theorem dict_eq_declines {a b : Addr} (ha : s.TypeIs (.ref a) "dict") (hb : s.TypeIs (.ref b) "tuple") (Q' : Value → Shared → Prop) (h : Q' .notImplemented s) :
    wpAny (model prog w) A (call (.builtin "dict.__eq__") [.ref a, .ref b]) Q' E s := by
  refine wpAny_call_entry PySem.F.slot_dict_eq ha PySem.F.entry_dict_eq ?_ (PySem.F.args_dict_eq_2 _ _)
  show wpAny _ _ (Builtin.Dict.dictSlotArgs "__eq__" ⟨[.ref a, .ref b], []⟩ >>= _) _ _ s
  refine wpAny_bind ?_
  unfold Builtin.Dict.dictSlotArgs
  refine wpAny_bind (wpAny_notOrdered_dict ha ?_)
  show wpAny _ _ (pure (Value.ref a, Value.ref b)) _ _ s
  refine wpAny_pure ?_
  refine wpAny_bind (wpAny_isInstance (T := "tuple") hb PySem.F.sub_tuple_dict ?_)
  simp only [Bool.not_false, if_true]
  first
    | exact wpAny_bind (wpAny_rule (wpAny_pure ⟨_, rfl, h⟩))
    | exact wpAny_bind (wpAny_rule (wpAny_bind (wpAny_pure (wpAny_pure ⟨_, rfl, h⟩))))
    | skip
end
section
variable {X : Cx}
def rEqDT (K : PySem.W.Frag) : R2 := fun x y H Q => ∃ a b ks xs, x = .ref a ∧ y = .ref b ∧ H a = some (.dK ks) ∧ SqT K H b xs ∧ Q (.bl false) H
theorem op_eqDT (hu : X.A.units < cLine) : OpR X (compareOp .Eq) (rEqDT X.K) := by
  intro pins s σ H x y v u Q I rx ry h
  obtain ⟨a, b, ks, xs, rfl, rfl, ha, hb, q⟩ := h
  cases (show v = Value.ref a from rx)
  cases (show u = Value.ref b from ry)
  obtain ⟨_, ya, va, ra, da⟩ := (show ObjOk X.prog X.w H s.heap a (.dK ks) from I.hok a _ ha)
  obtain ⟨its, r, p, _⟩ := I.tuple hb
  obtain ⟨o1, h1, c1⟩ := da.typeIs
  obtain ⟨o2, ho2, hc2, n2, hd2⟩ := id p
  have hne : a ≠ b := fun e => by
    subst e
    rw [h1] at ho2
    cases ho2
    rw [c1] at hc2
    exact absurd hc2 (by simp)
  obtain ⟨cls2, dd2, data2, sl2⟩ := o2
  simp only at hc2 hd2
  subst hc2 hd2
  show wpAny _ _ (richCompare .Eq _ _) _ _ _
  exact rc_eq_decline_or (k := false) ⟨_, h1, c1⟩ ⟨_, ho2, rfl⟩ (by decide) PySem.F.sub_tuple_dict PySem.F.slot_dict_eq PySem.F.slot_tuple_eq_refl
    (fun _ hq => dict_eq_declines ⟨_, h1, c1⟩ ⟨_, ho2, rfl⟩ _ hq)
    (fun _ hq => call_meets PySem.F.slot_tuple_eq_refl ⟨_, ho2, rfl⟩ PySem.F.entry_tuple_eq (PySem.F.args_tuple_eq_2 _ _) (tuple_eq_declines_dict b a its.toArray n2 dd2 sl2 o1 c1) ⟨ho2, h1, hq⟩)
    (fun _ hq => wpAny_isSame_ref_other (fun e => hne e) h1 ho2 (by rw [c1]; simp) hq) (.inr hu) ⟨.bl false, H, I, rfl, q⟩
end
end Lk
set_option Elab.async false
set_option linter.all false
set_option maxRecDepth 100000
set_option maxHeartbeats 1500000
set_option pp.maxSteps 1200
set_option pp.deepTerms false
namespace K6
open PySem PySem.Spec PyProof.Rows L2 Lk
theorem sqL_same' {K : PySem.W.Frag} {H H' : Hp} {a : Addr} {xs : List V} (s : Same H H') (h : SqL K H a xs) : SqL K H' a xs := h.imp (fun h => h.imp (s _ _) fun ⟨o, e⟩ => ⟨o, s _ _ e⟩) id
mutual
theorem Dp.same {K : PySem.W.Frag} {H H' : Hp} (s : Same H H') : ∀ {d : PyData} {v : V}, Dp K H v d → Dp K H' v d
  | .none, _, h => by cases h; exact .non
  | .bool b, _, h => by cases h; exact .bl b
  | .int i, _, h => by cases h; exact .int i
  | .str x, _, h => by cases h; exact .str x
  | .list ds, _, h => by
    cases h with
    | lst hs ha => exact .lst (sqL_same' s hs) (DpAll.same s ha)
  | .tuple ds, _, h => by
    cases h with
    | tup hs ha => exact .tup (sqT_same s hs) (DpAll.same s ha)
  | .dict _, _, h => by cases h
theorem DpAll.same {K : PySem.W.Frag} {H H' : Hp} (s : Same H H') : ∀ {ds : List PyData} {vs : List V}, DpAll K H vs ds → DpAll K H' vs ds
  | [], _, h => by cases h; exact .nil
  | d :: ds, _, h => by
    cases h with
    | cons h1 h2 => exact .cons (Dp.same s h1) (DpAll.same s h2)
end
/-- any value: read deep, or a dict -/
def VD (K : PySem.W.Frag) (H : Hp) (v : V) (d : PyData) : Prop := (Dp K H v d ∧ Nice 100000 30 d) ∨ ∃ a ks, v = .ref a ∧ H a = some (.dK ks) ∧ d = .dict []
theorem VD.same {K : PySem.W.Frag} {H H' : Hp} {v : V} {d : PyData} (h : VD K H v d) (s : Same H H') : VD K H' v d := by
  rcases h with ⟨h, n⟩ | ⟨a, ks, e, h, e2⟩
  · exact .inl ⟨Dp.same s h, n⟩
  · exact .inr ⟨a, ks, e, s _ _ h, e2⟩
def isTupB : PyData → Bool
  | .tuple _ => true
  | _ => false
def isStrB : PyData → Bool
  | .str _ => true
  | _ => false
theorem sqT_ty {K : PySem.W.Frag} {H : Hp} {a : Addr} {xs : List V} (h : SqT K H a xs) : TyX K H (.ref a) (.type "tuple") := by
  rcases h with (h | ⟨o, h⟩) | ⟨o, its, n, h, c, _⟩
  · exact .base (.tup h)
  · exact .fTuple h
  · exact .kTuple h c
theorem sqL_ty {K : PySem.W.Frag} {H : Hp} {a : Addr} {xs : List V} (h : SqL K H a xs) : TyX K H (.ref a) (.type "list") := by
  rcases h with (h | ⟨o, h⟩) | ⟨o, its, n, h, c, _⟩
  · exact .base (.lst h)
  · exact .base (.frz h)
  · exact .kList h c
/-- isinstance(v, tuple), isinstance(v, str) -/
theorem vd_isi {K : PySem.W.Frag} {H : Hp} {v : V} {d : PyData} (h : VD K H v d) : ∃ t : Value, TyX K H v t ∧ PySem.W.kitOne K t (.type "tuple") = some (isTupB d) ∧ PySem.W.kitOne K t (.type "str") = some (isStrB d) := by
  rcases h with ⟨h, _⟩ | ⟨a, ks, rfl, h, rfl⟩
  · cases h with
    | non => exact ⟨_, .base .non, rfl, rfl⟩
    | bl b => exact ⟨_, .base (.bl b), rfl, rfl⟩
    | int i => exact ⟨_, .base (.int i), rfl, rfl⟩
    | str x => exact ⟨_, .base (.str x), rfl, rfl⟩
    | lst hs _ => exact ⟨_, sqL_ty hs, rfl, rfl⟩
    | tup hs _ => exact ⟨_, sqT_ty hs, rfl, rfl⟩
  · exact ⟨_, .base (.dK h), rfl, rfl⟩
theorem vd_tup {K : PySem.W.Frag} {H : Hp} {v : V} {d : PyData} (h : VD K H v d) (e : isTupB d = true) : ∃ a xs ds, v = .ref a ∧ d = .tuple ds ∧ SqT K H a xs ∧ DpAll K H xs ds ∧ Nice 100000 30 (.tuple ds) := by
  rcases h with ⟨h, n⟩ | ⟨a, ks, rfl, h, rfl⟩
  · cases h with
    | tup hs ha => exact ⟨_, _, _, rfl, rfl, hs, ha, n⟩
    | _ => cases e
  · cases e
theorem vd_str {K : PySem.W.Frag} {H : Hp} {v : V} {d : PyData} (h : VD K H v d) (e : isStrB d = true) : ∃ z, v = .str z ∧ d = .str z ∧ z.length ≤ 100000 ∧ PyData.strOk z = true := by
  rcases h with ⟨h, n⟩ | ⟨a, ks, rfl, h, rfl⟩
  · cases h with
    | str x =>
      refine ⟨_, rfl, rfl, ?_, ?_⟩
      · have := n.wt
        simpa [PyData.weight, Str.length] using this
      · have := n.lay
        simpa [PyData.canLay0] using this
    | _ => cases e
  · cases e
theorem wtAll_len : ∀ ds : List PyData, ds.length ≤ PyData.weightAll ds
  | [] => by simp
  | d :: ds => by
    have := wtAll_len ds
    simp only [PyData.weightAll, List.length_cons]
    omega
theorem nice_tlen {n k : Nat} {ds : List PyData} (h : Nice n k (.tuple ds)) : ds.length ≤ n := by
  have := h.wt
  simp only [PyData.weight] at this
  exact Nat.le_trans (wtAll_len ds) this
theorem nice_in {n k : Nat} : ∀ {ds : List PyData}, PyData.canLayAll0 ds = true ∧ PyData.depthAll ds ≤ k ∧ PyData.weightAll ds ≤ n ∧ PyData.intsShortAll 13 ds = true ∧ PyData.showableAll ds = true → ∀ d ∈ ds, Nice n k d
  | [], _, d, h => by cases h
  | e :: ds, ⟨a1, a2, a3, a4, a5⟩, d, h => by
    simp only [PyData.canLayAll0, PyData.intsShortAll, PyData.showableAll, Bool.and_eq_true] at a1 a4 a5
    simp only [PyData.depthAll, PyData.weightAll] at a2 a3
    rcases List.mem_cons.mp h with rfl | h
    · exact ⟨a1.1, by omega, by omega, a4.1, a5.1⟩
    · exact nice_in ⟨a1.2, by omega, by omega, a4.2, a5.2⟩ d h
theorem nice_item {n k : Nat} {ds : List PyData} (h : Nice n k (.tuple ds)) : ∀ d ∈ ds, Nice n k d := by
  obtain ⟨a1, a2, a3, a4, a5⟩ := h
  simp only [PyData.canLay0] at a1
  simp only [PyData.depth] at a2
  simp only [PyData.weight] at a3
  simp only [PyData.intsShort] at a4
  simp only [PyData.showable] at a5
  exact nice_in ⟨a1, by omega, a3, a4, a5⟩
theorem DpAll.len {K : PySem.W.Frag} {H : Hp} : ∀ {xs : List V} {ds : List PyData}, DpAll K H xs ds → xs.length = ds.length
  | _, [], h => by cases h; rfl
  | _, d :: ds, h => by
    cases h with
    | cons _ t => rw [List.length_cons, List.length_cons, DpAll.len t]
theorem DpAll.get {K : PySem.W.Frag} {H : Hp} : ∀ {xs : List V} {ds : List PyData} {i : Nat} {d : PyData}, DpAll K H xs ds → ds[i]? = some d → ∃ v, xs[i]? = some v ∧ Dp K H v d
  | _, [], i, d, h, e => by simp at e
  | _, e :: ds, i, d, h, e2 => by
    cases h with
    | cons h1 t =>
      cases i with
      | zero =>
        simp at e2
        subst e2
        exact ⟨_, rfl, h1⟩
      | succ i =>
        obtain ⟨v, h3, h4⟩ := DpAll.get (i := i) t (by simpa using e2)
        exact ⟨v, by simpa using h3, h4⟩
/-- eqv with a text -/
theorem eqv_str (d : PyData) (z : Str) : PyData.eqv d (.str z) = true ↔ d = .str z := by
  cases d <;> simp [PyData.eqv]
theorem eqvAll_dstrs : ∀ (ds : List PyData) (zs : List Str), PyData.eqvAll ds (strsD zs) = true ↔ ds = strsD zs
  | [], [] => by simp [strsD, PyData.eqvAll]
  | [], z :: zs => by simp [strsD, PyData.eqvAll]
  | d :: ds, [] => by simp [strsD, PyData.eqvAll]
  | d :: ds, z :: zs => by
    have ih := eqvAll_dstrs ds zs
    unfold strsD at ih ⊢
    rw [List.map_cons, PyData.eqvAll, Bool.and_eq_true, eqv_str, ih, List.cons.injEq]
theorem eqvD_strs (d : PyData) (zs : List Str) : PyData.eqv d (.tuple (strsD zs)) = true ↔ d = .tuple (strsD zs) := by
  cases d with
  | tuple ds =>
    rw [PyData.eqv, eqvAll_dstrs]
    simp
  | _ => simp [PyData.eqv]
end K6
set_option Elab.async false
set_option linter.all false
set_option maxRecDepth 100000
set_option maxHeartbeats 1500000
/-! a tuple the other way round: t[::-1] -/
namespace Lk
open PySem PySem.Spec PyProof.Rows L2

section
variable {prog : Program} {w : World} {A : Around} {E : Value → Shared → Prop} {s : Shared}
theorem adjust_rev (n : Nat) : Builtin.Slice.sliceAdjust none none (-1) (n : Int) = ((n : Int) - 1, -1) := by
  unfold Builtin.Slice.sliceAdjust
  simp
theorem places_rev (n : Nat) : Builtin.Slice.slicePlaces ((n : Int) - 1) (-1) (-1) = n := by
  unfold Builtin.Slice.slicePlaces
  have h1 : ¬ ((-1 : Int) > 0) := by decide
  have h2 : -(-1 : Int) = 1 := by decide
  rw [if_neg h1, h2, Int.ediv_one]
  by_cases h : (n : Int) - 1 > -1
  · rw [if_pos h]; omega
  · rw [if_neg h]; omega
theorem pick_rev (xs : List Value) : ((List.range xs.length).filterMap fun (m : Nat) => xs.toArray[(((xs.length : Int) - 1) + (m : Int) * (-1)).toNat]?) = xs.reverse := by
  have h : ∀ m ∈ List.range xs.length, xs.toArray[(((xs.length : Int) - 1) + (m : Int) * (-1)).toNat]? = xs.reverse[m]? := by
    intro m hm
    have hm := List.mem_range.mp hm
    rw [List.getElem?_reverse hm]
    have : (((xs.length : Int) - 1) + (m : Int) * (-1)).toNat = xs.length - 1 - m := by omega
    rw [this]
    simp
  have key : ∀ (ys : List Value) (f : Nat → Option Value), (∀ m, m < ys.length → f m = ys[m]?) → (List.range ys.length).filterMap f = ys := by
    intro ys
    induction ys with
    | nil => intro f _; rfl
    | cons y ys ih =>
      intro f hf
      rw [List.length_cons, List.range_succ_eq_map, List.filterMap_cons, hf 0 (by simp)]
      show y :: _ = _
      rw [List.filterMap_map]
      rw [ih (f ∘ Nat.succ) fun m hm => by
        show f (m + 1) = _
        rw [hf (m + 1) (by rw [List.length_cons]; omega)]
        rfl]
  have := key xs.reverse (fun (m : Nat) => xs.toArray[(((xs.length : Int) - 1) + (m : Int) * (-1)).toNat]?) fun m hm => h m (List.mem_range.mpr (by rw [List.length_reverse] at hm; exact hm))
  rw [List.length_reverse] at this
  exact this
theorem sliceApplied_rev {sl : Addr} {t : Tok} {n : Nat} {Q : Int × Int × Nat → Shared → Prop} (hs : s.heap.IsSliceOf sl .none .none (.int (-1) t))
    (h : Q ((n : Int) - 1, -1, n) s) : wpAny (model prog w) A (Builtin.Slice.sliceApplied (.ref sl) (pure (n : Int))) Q E s := by
  obtain ⟨os, hos, hcs, hds⟩ := id hs
  unfold Builtin.Slice.sliceApplied Builtin.Slice.sliceFields
  refine wpAny_bind (wpAny_bind (wpAny_field hos hds (x := .none) rfl (wpAny_bind (wpAny_field hos hds (x := .none) rfl (wpAny_bind (wpAny_field hos hds (x := .int (-1) t) rfl (wpAny_pure ?_)))))))
  refine wpAny_bind (HT.slicePart_ (.int (-1) t) ?_)
  show wpAny _ _ (if ((-1 : Int) == 0) = true then _ else _) _ _ s
  rw [if_neg (by decide)]
  refine wpAny_bind (HT.slicePart_ .none (wpAny_bind (HT.slicePart_ .none (wpAny_bind (wpAny_pure ?_)))))
  show wpAny _ _ (match Builtin.Slice.sliceAdjust none none (-1) (n : Int) with | (lo, hi) => pure (lo, (-1 : Int), Builtin.Slice.slicePlaces lo hi (-1))) _ _ s
  rw [adjust_rev n]
  show wpAny _ _ (pure ((n : Int) - 1, (-1 : Int), Builtin.Slice.slicePlaces ((n : Int) - 1) (-1) (-1))) _ _ s
  rw [places_rev]
  exact wpAny_pure h
theorem getItem_tuple_rev {t sl : Addr} {items : List Value} {tk : Tok} {Q : Value → Shared → Prop} (ht : IsTup s.heap t items.toArray) (hs : s.heap.IsSliceOf sl .none .none (.int (-1) tk))
    (h : Q (.ref s.heap.objs.size) { s with heap := s.heap.push { cls := .type "tuple", data := .seq items.reverse.toArray } })
    (hsz : items.length ≤ sizeLine) : wpAny (model prog w) A (getItem (.ref t) (.ref sl)) Q E s := by
  have htake : sizeOk (.seq items.reverse.toArray) := by
    show items.reverse.toArray.size ≤ sizeLine
    rw [List.size_toArray, List.length_reverse]
    exact hsz
  obtain ⟨os, hos, hcs, hds⟩ := id hs
  have hTs : s.TypeIs (.ref sl) "slice" := ⟨os, hos, hcs⟩
  unfold getItem
  try with_reducible refine wpAny_holding ?_
  first | refine wpAny_bind (wpAny_pure ?_) | skip
  refine wpAny_bind (wpAny_sequenceKey ht.typeIs (by decide) ?_)
  refine wpAny_bind (wpAny_callSpecial?_slot (name := Str.ofString "__getitem__") ht.typeIs PyProof.Rows.slot_tuple_getitem
    (wpAny_call_entry PyProof.Rows.slot_tuple_getitem ht.typeIs PyProof.Rows.entry_tuple_getitem ?_ (PyProof.Rows.args_tuple_getitem _ _)))
  show wpAny _ _ (Builtin.Tuple.tupleItemsOf (.ref t) >>= _) _ _ s
  refine wpAny_bind (PyProof.Rows.tupleItemsOf_ ht ?_)
  refine wpAny_bind (wpAny_typeOf hTs ?_)
  rw [if_pos (by decide)]
  rw [show ((items.toArray.size : Nat) : Int) = ((items.length : Nat) : Int) from by rw [List.size_toArray]]
  refine wpAny_bind (sliceApplied_rev hs ?_)
  have hno : ¬ ((((items.length : Int) - 1) == 0 && (-1 : Int) == 1 && items.length == items.toArray.size) = true) := by
    intro q
    rw [Bool.and_eq_true, Bool.and_eq_true] at q
    exact absurd q.1.2 (by decide)
  show wpAny _ _ (if (((items.length : Int) - 1) == 0 && (-1 : Int) == 1 && items.length == items.toArray.size) = true then _ else _) _ _ s
  rw [if_neg hno, pick_rev]
  first
    | exact wpAny_bind (m := Builtin.Tuple.tupleExact _) (wpAny_newObj_type (wpAny_pure ⟨_, rfl, wpAny_pure h⟩) htake)
    | exact wpAny_bind (m := Builtin.Tuple.tupleExact _) (wpAny_newObj_type (wpAny_bind (wpAny_pure (wpAny_pure ⟨_, rfl, wpAny_pure h⟩))) htake)
    | exact wpAny_bind (wpAny_bind (m := Builtin.Tuple.tupleExact _) (wpAny_newObj_type (wpAny_pure (wpAny_pure ⟨_, rfl, wpAny_pure h⟩)) htake))
    | exact wpAny_bind (wpAny_bind (m := Builtin.Tuple.tupleExact _) (wpAny_newObj_type (wpAny_pure ⟨_, rfl, wpAny_pure h⟩) htake))
end
section
variable {X : Cx} {e st : Expr} {te ts : TE} {pos p2 : Pos}
def rRevT (K : PySem.W.Frag) (x : V) (H : Hp) (Q : VK) : Prop := ∃ a xs, x = .ref a ∧ SqT K H a xs ∧ ∀ p, H p = none → Q (.ref p) (upd H p (.tup xs.reverse))
def tRev (K : PySem.W.Frag) (te : TE) : TE := fun σ H Q => te σ H fun x H1 => rRevT K x H1 Q
/-- t[::-1] -/
theorem pe_rev (he : PE X e te) (hs : PE X st (tC (.int (-1)))) : PE X (.Subscript e (.Slice none none (some st) p2) pos) (tRev X.K te) := by
  refine ⟨fun pins s σ H Q I h => ?_⟩
  refine Subscript_ (thn (he.run pins s σ H _ I h) fun v s1 ⟨x, H1, I1, r1, q1⟩ => ?_)
  obtain ⟨a, xs, rfl, hx, q⟩ := q1
  refine wpAny_Slice ?_
  rw [evalPart_none]
  refine wpAny_pure ?_
  refine wpAny_pure ?_
  rw [evalPart_some]
  refine thn (hs.run pins s1 σ H1 (fun x H' => x = .int (-1) ∧ H' = H1) I1 ⟨rfl, rfl⟩) fun u s2 ⟨y, H2, I2, r2, e1, e2⟩ => ?_
  subst e1 e2
  obtain ⟨tk, rfl⟩ := r2
  cases r1
  obtain ⟨its, r, ht, hz⟩ := I2.tuple hx
  have I4 : Inv X pins σ H2 { s2 with heap := s2.heap.push { cls := .type "slice", data := .fields #[.none, .none, .int (-1) tk] } } := I2.kept (t' := s2.toks) fun b ob q => Heap.get?_push_of_some _ q
  obtain ⟨its, r, ht, hz⟩ := I4.tuple hx
  show wpAny (model X.prog X.w) X.A (subscriptTail e (.Slice none none (some st) p2) (.ref a) (.ref s2.heap.objs.size)) (EP X pins σ Q) X.xe { s2 with heap := s2.heap.push { cls := .type "slice", data := .fields #[.none, .none, .int (-1) tk] } }
  refine tail_any (ops := [.ref a, .ref s2.heap.objs.size]) ht.typeIs PyProof.Rows.slot_tuple_getitem.lookup ?_ (by with_unfolding_all rfl)
  refine getItem_tuple_rev ht (Heap.IsSliceOf.new ..) ?_ (by rw [← r.length]; exact hz)
  refine ⟨.ref _, _, I4.laid (t' := s2.toks) (o := .tup xs.reverse) (fun b ob q => Heap.get?_push_of_some _ q) (Nat.le_refl _) ?_, rfl, q _ (I4.hok.fresh (Nat.le_refl _))⟩
  exact ⟨by rw [List.length_reverse]; exact hz, _, r.reverse, IsTup.new _ _⟩
end
end Lk
set_option Elab.async false
set_option linter.all false
set_option maxRecDepth 100000
set_option maxHeartbeats 1500000
set_option pp.maxSteps 1200
set_option pp.deepTerms false
namespace K6
open PySem PySem.Spec PyProof.Rows L2 Lk
/-! ### values that do not hold the draws' list -/
def hid (as : List Addr) (H : Hp) : Hp := fun b => if b ∈ as then none else H b
theorem hid_ne {as : List Addr} {b : Addr} {H : Hp} (h : b ∉ as) : hid as H b = H b := if_neg h
theorem hid_sub {as : List Addr} {H : Hp} : Same (hid as H) H := fun b o e => by
  unfold hid at e
  split at e
  · cases e
  · exact e
/-- all but the hidden stands -/
theorem hid_but {as : List Addr} {H H' : Hp} (x : ∀ b o, b ∉ as → H b = some o → H' b = some o) : Same (hid as H) (hid as H') := fun b o e => by
  unfold hid at e ⊢
  split at e
  · cases e
  · rename_i h
    rw [if_neg h]
    exact x b o h e
theorem hid_ext {a : Addr} {as : List Addr} {H H' : Hp} (ha : a ∈ as) (x : ExtP a H H') : Same (hid as H) (hid as H') := hid_but fun b o h e => x b o (fun z => h (z ▸ ha)) e
theorem hid_same {as : List Addr} {H H' : Hp} (s : Same H H') : Same (hid as H) (hid as H') := hid_but fun b o _ e => s b o e
def OkA (as : List Addr) (H : Hp) : Prop := ∀ b ∈ as, H b ≠ none
theorem OkA.same {as : List Addr} {H H' : Hp} (h : OkA as H) (s : Same H H') : OkA as H' := fun b hb e => by
  cases z : H b with
  | none => exact h b hb z
  | some o => rw [s _ _ z] at e; cases e
theorem ne_fresh {as : List Addr} {p : Addr} {H : Hp} (ha : OkA as H) (np : H p = none) : p ∉ as := fun e => ha p e np
/-- the draws, and what is hidden stands -/
structure PotA (a : Addr) (as : List Addr) (N : Nat) (H : Hp) : Prop where
  pot : PotAt a N H
  ne : OkA as H
  mem : a ∈ as
theorem PotA.same {a : Addr} {as : List Addr} {N : Nat} {H H' : Hp} (h : PotA a as N H) (s : Same H H') : PotA a as N H' := ⟨h.pot.same s, h.ne.same s, h.mem⟩
theorem PotA.mono {a : Addr} {as : List Addr} {N M : Nat} {H : Hp} (h : PotA a as N H) (k : N ≤ M) : PotA a as M H := ⟨h.pot.mono k, h.ne, h.mem⟩
theorem PotA.ext {a : Addr} {as : List Addr} {N M : Nat} {H H' : Hp} (h : PotA a as N H) (x : ExtP a H H') (p : PotAt a M H') : PotA a as M H' := ⟨p, (fun b hb e => by
  by_cases z : b = a
  · subst z
    exact p.ne e
  · cases q : H b with
    | none => exact h.ne b hb q
    | some o => rw [x _ _ z q] at e; cases e), h.mem⟩
theorem PotA.nea {a : Addr} {as : List Addr} {N : Nat} {H : Hp} (h : PotA a as N H) {p : Addr} (np : H p = none) : p ≠ a := fun e => h.pot.ne (e ▸ np)
theorem DpAll.sub {K : PySem.W.Frag} {H : Hp} : ∀ {xs : List V} {ds : List PyData} (i j : Nat), DpAll K H xs ds → DpAll K H ((xs.drop i).take j) ((ds.drop i).take j)
  | _, [], i, j, h => by
    cases h
    simp
    exact .nil
  | _, d :: ds, i, j, h => by
    cases h with
    | cons h1 t =>
      cases i with
      | zero =>
        cases j with
        | zero => exact .nil
        | succ j => exact .cons h1 (by simpa using DpAll.sub 0 j t)
      | succ i => simpa using DpAll.sub i j t
theorem DpAll.append {K : PySem.W.Frag} {H : Hp} : ∀ {xs : List V} {ds : List PyData} {ys : List V} {es : List PyData}, DpAll K H xs ds → DpAll K H ys es → DpAll K H (xs ++ ys) (ds ++ es)
  | _, [], _, _, h, g => by
    cases h
    exact g
  | _, d :: ds, _, _, h, g => by
    cases h with
    | cons h1 t => exact .cons h1 (DpAll.append t g)
theorem DpAll.rev {K : PySem.W.Frag} {H : Hp} : ∀ {xs : List V} {ds : List PyData}, DpAll K H xs ds → DpAll K H xs.reverse ds.reverse
  | _, [], h => by
    cases h
    exact .nil
  | _, d :: ds, h => by
    cases h with
    | cons h1 t =>
      rw [List.reverse_cons, List.reverse_cons]
      exact DpAll.append (DpAll.rev t) (.cons h1 .nil)
theorem dp_new {K : PySem.W.Frag} {as : List Addr} {p : Addr} {H : Hp} {xs : List V} {ds : List PyData} (ha : OkA as H) (np : H p = none) (h : DpAll K (hid as H) xs ds) : Dp K (hid as (upd H p (.tup xs))) (.ref p) (.tuple ds) :=
  .tup (SqT.of (by rw [hid_ne (ne_fresh ha np)]; exact upd_same)) (DpAll.same (hid_same (same_new np)) h)
theorem dp_newL {K : PySem.W.Frag} {as : List Addr} {p : Addr} {H : Hp} {xs : List V} {ds : List PyData} (ha : OkA as H) (np : H p = none) (h : DpAll K (hid as H) xs ds) : Dp K (hid as (upd H p (.lst xs))) (.ref p) (.list ds) :=
  .lst (SqL.of (by rw [hid_ne (ne_fresh ha np)]; exact upd_same)) (DpAll.same (hid_same (same_new np)) h)
/-- a part of a tuple -/
theorem slice_dp {K : PySem.W.Frag} {as : List Addr} {q : Addr} {H : Hp} {ds : List PyData} {lo hi : Option Int} {Q : VK} (ha : OkA as H) (hd : Dp K (hid as H) (.ref q) (.tuple ds))
    (k : ∀ p H' es, Same H H' → (∀ e ∈ es, e ∈ ds) → es.length ≤ ds.length → Dp K (hid as H') (.ref p) (.tuple es) → Q (.ref p) H') : rSlA K (.ref q) lo hi H Q := by
  cases hd with
  | @tup _ xs _ hs h =>
    refine ⟨q, xs, rfl, sqT_same hid_sub hs, fun _ => k q H ds (Same.refl _) (fun _ h => h) (Nat.le_refl _) (.tup hs h), fun _ p np => ?_⟩
    refine k p _ ((ds.drop (HT.sIx xs.length 0 lo)).take (HT.sIx xs.length xs.length hi - HT.sIx xs.length 0 lo)) (same_new np) (fun e he => List.mem_of_mem_drop (List.mem_of_mem_take he)) ?_ (dp_new ha np (DpAll.sub _ _ h))
    rw [List.length_take, List.length_drop]
    omega
/-- two tuples, one behind the other -/
theorem cat_dp {K : PySem.W.Frag} {as : List Addr} {q r : Addr} {H : Hp} {ds es : List PyData} {Q : VK} (ha : OkA as H) (hd : Dp K (hid as H) (.ref q) (.tuple ds)) (he : Dp K (hid as H) (.ref r) (.tuple es)) (hl : ds.length + es.length ≤ 10000)
    (k : ∀ p H', Same H H' → Dp K (hid as H') (.ref p) (.tuple (ds ++ es)) → Q (.ref p) H') : rCatA K (.ref q) (.ref r) H Q := by
  cases hd with
  | @tup _ xs _ hs h =>
    cases he with
    | @tup _ ys _ hs2 h2 =>
      have l1 := DpAll.len h
      have l2 := DpAll.len h2
      refine ⟨q, r, xs, ys, rfl, rfl, sqT_same hid_sub hs, sqT_same hid_sub hs2, by rw [sizeLine_eq]; omega, fun e => ?_, fun _ e => ?_, fun _ _ p np => ?_⟩
      · have : ds = [] := List.length_eq_zero_iff.mp (by rw [← l1, e]; rfl)
        subst this
        exact k r H (Same.refl _) (.tup hs2 h2)
      · have : es = [] := List.length_eq_zero_iff.mp (by rw [← l2, e]; rfl)
        subst this
        rw [List.append_nil] at k
        exact k q H (Same.refl _) (.tup hs h)
      · exact k p _ (same_new np) (dp_new ha np (DpAll.append h h2))
theorem rev_dp {K : PySem.W.Frag} {as : List Addr} {q : Addr} {H : Hp} {ds : List PyData} {Q : VK} (ha : OkA as H) (hd : Dp K (hid as H) (.ref q) (.tuple ds))
    (k : ∀ p H', Same H H' → Dp K (hid as H') (.ref p) (.tuple ds.reverse) → Q (.ref p) H') : rRevT K (.ref q) H Q := by
  cases hd with
  | @tup _ xs _ hs h => exact ⟨q, xs, rfl, sqT_same hid_sub hs, fun p np => k p _ (same_new np) (dp_new ha np (DpAll.rev h))⟩
section
variable {X : Cx}
theorem pe_neg1 {k : Nat} {p1 p2 : Pos} : PE X (.UnaryOp .USub (.Constant (.int 1) k p1) p2) (tC (.int (-1))) := ⟨fun pins s σ H Q I h => (pe_un un_neg pe_int).run pins s σ H Q I ⟨1, rfl, h⟩⟩
end
theorem dp_hid {K : PySem.W.Frag} {as : List Addr} {H : Hp} {v : V} {d : PyData} (h : Dp K (hid as H) v d) : Dp K H v d := Dp.same hid_sub h
theorem dp_ext {K : PySem.W.Frag} {a : Addr} {as : List Addr} {H H' : Hp} {v : V} {d : PyData} (ha : a ∈ as) (h : Dp K (hid as H) v d) (x : ExtP a H H') : Dp K (hid as H') v d := Dp.same (hid_ext ha x) h
theorem nice_none : Nice 0 0 .none := ⟨by simp [PyData.canLay0], by simp [PyData.depth], by simp [PyData.weight], by simp [PyData.intsShort], by simp [PyData.showable]⟩
/-! ### what is bent -/
def ascB (z : Str) : Prop := ∀ c ∈ z.cps.toList, c < 128
theorem asc_ok {z : Str} (h : ascB z) : PyData.strOk z = true := by
  unfold PyData.strOk
  rw [Array.all_eq_true]
  intro i hi
  have := h z.cps[i] (by simp)
  exact decide_eq_true (by omega)
theorem asc_upper {z : Str} (h : ascB z) : PyData.strOk (Txt.upper z) = true ∧ (Txt.upper z).length = z.length := by
  rw [PyProof.Rows.upper_ascii h]
  refine ⟨asc_ok fun c hc => ?_, by simp [Str.length]⟩
  rw [Array.toList_map] at hc
  obtain ⟨b, hb, rfl⟩ := List.mem_map.mp hc
  have := h b hb
  unfold PyProof.Rows.up1
  split <;> omega
def B0 (d : PyData) : Prop := ∃ z, d = .str z ∧ ascB z ∧ z.length ≤ 8
def Bn : Nat → PyData → Prop
  | 0 => fun _ => False
  | j + 1 => fun d => B0 d ∨ ∃ ds, d = .tuple ds ∧ ds.length ≤ 6 ∧ ∀ e ∈ ds, Bn j e
def cB : Nat → Nat
  | 0 => 20
  | j + 1 => 13 * (cB j + 1)
theorem cB_mono : ∀ j, 20 ≤ cB j
  | 0 => Nat.le_refl _
  | j + 1 => by
    have := cB_mono j
    show 20 ≤ 13 * (cB j + 1)
    omega
theorem bn_nice : ∀ (j : Nat) (d : PyData), Bn j d → Nice (cB j) j d
  | 0, d, h => h.elim
  | j + 1, d, h => by
    have c := cB_mono (j + 1)
    rcases h with ⟨z, rfl, za, zl⟩ | ⟨ds, rfl, dl, hd⟩
    · exact (Nice.str (asc_ok za) zl).mono (by omega) (by omega)
    · exact (Nice.tup (fun e he => bn_nice j e (hd e he)) (show ds.length ≤ 13 by omega)).mono (Nat.le_refl _) (Nat.le_refl _)
end K6
set_option Elab.async false
set_option linter.all false
set_option maxRecDepth 100000
set_option maxHeartbeats 4000000
namespace K6
open PySem PySem.Spec PyProof.Rows L2 Lk
abbrev sOdd : Stmt := top 69
mutual
theorem dw_dp {K : PySem.W.Frag} {H : Hp} : ∀ {d : PyData} {v : V}, DW H v d → PyData.canLay0 d = true → Dp K H v d
  | .none, _, h, _ => by cases h; exact .non
  | .bool b, _, h, _ => by cases h; exact .bl b
  | .int i, _, h, _ => by cases h; exact .int i
  | .str x, _, h, _ => by cases h; exact .str x
  | .list ds, _, h, l => by
    cases h with
    | lst h1 _ h2 => exact .lst (SqL.of h1) (dws_dp h2 (by simpa [PyData.canLay0] using l))
  | .tuple ds, _, h, l => by
    cases h with
    | tup h1 h2 => exact .tup (SqT.of h1) (dws_dp h2 (by simpa [PyData.canLay0] using l))
  | .dict _, _, h, l => by simp [PyData.canLay0] at l
theorem dws_dp {K : PySem.W.Frag} {H : Hp} : ∀ {ds : List PyData} {vs : List V}, DWs H vs ds → PyData.canLayAll0 ds = true → DpAll K H vs ds
  | [], _, h, _ => by cases h; exact .nil
  | d :: ds, _, h, l => by
    cases h with
    | cons h1 h2 =>
      simp only [PyData.canLayAll0, Bool.and_eq_true] at l
      exact .cons (dw_dp h1 l.1) (dws_dp h2 l.2)
end
section
variable {P : Program} {w : World} {K : PySem.W.Frag} {mg : Str → Option Value} {base : Heap} {f : Addr} {fd : FuncData}
/-! ### _law_odd -/
def odd1 : List PyData := [.none, .bool true, .bool false, .int 0, .int 1, .int (-1), .int 2, .int 7, .str "", .str "a", .str "x", .str "01", .str "write", .tuple [], .list [], .dict [],
  .tuple [.int 0], .tuple [.tuple []], .list [.int 0], .dict [(.str "a", .int 1)]]
def odd2 : List PyData := [.tuple [.str "a"], .tuple [.str "a", .str "b"], .tuple [.tuple [.str "a"]], .tuple [.tuple [.str "a"], .tuple [.str "b"]], .tuple [.str "a", .int 0], .tuple [.tuple [.str "a", .int 0]],
  .tuple [.str "back", .tuple []], .tuple [.none], .str "A"]
def spOdd : Sp := fun vs H Q _ => ∃ (a : Addr) (N : Nat), vs = [.ref a] ∧ PotAt a N H ∧ N ≤ 1000000 ∧
  ∀ (v : V) (d : PyData) (H' : Hp), d ∈ odd1 ++ odd2 → ExtP a H H' → PotAt a (N + 1) H' → DW (sub H H') v d → Q v H'
theorem scOdd : FnScope ["pot", "some"] ["pot"] (defScope sOdd) := ⟨rfl, rfl, rfl, by decide +kernel, rfl, by decide +kernel, by decide +kernel⟩
theorem ok_odd {f1 f2 : Addr} {fd1 fd2 : FuncData} (F : Fun K "_law_odd" "_law_odd" sOdd f fd) (T : Bl mg) (F1 : Fun K "_law_take" "_law_take" sTake f1 fd1) (b1 : Binds K fd1 ["pot", "upto"] []) (m1 : mg "_law_take" = some (.ref f1))
    (F2 : Fun K "_law_of" "_law_of" sOf f2 fd2) (b2 : Binds K fd2 ["pot", "some"] []) (m2 : mg "_law_of" = some (.ref f2)) : FnOk P w K mg base CX0 3 f fd ["pot"] spOdd := by
  have G2 : FnOk P w K mg base CX0 2 f2 fd2 ["pot", "some"] spOf := ok_of F2 T F1 b1 m1
  refine F.ok scOdd (fun vs H Q E h => ?_) (fun cdv A outer s H vs Q E hr h => ?_)
  · obtain ⟨a, N, rfl, _⟩ := h
    rfl
  · obtain ⟨a, N, rfl, hp, hN, k⟩ := h
    have nd := scOdd.nd
    refine ⟨_, pss_cons (ps_set (i := 1) nd rfl (.inl rfl) (te := tFr (.list odd1)) ?_) (pss_cons (ps_set (i := 1) nd rfl (.inl rfl) (pe_op op_cat (pv 1) (tb := tFr (.list odd2)) ?_))
      (pss_one (ps_ret (pe_call G2 hr rfl m2 F2.kp b2 .nil pass0 (pa_cons (pv 0) (pa_cons (pv 1) pa_nil)))))), ?_⟩
    · repeat (first | exact pds_nil | refine pds_cons ?_ ?_ | exact pd_int | exact pd_str | exact pd_bl | exact pd_non | exact pd_neg | exact pd_dict0 | refine pd_dict1 ?_ | refine pd_tup ?_ | refine pd_lst ?_)
    · repeat (first | exact pds_nil | refine pds_cons ?_ ?_ | exact pd_int | exact pd_str | exact pd_bl | exact pd_non | exact pd_neg | exact pd_dict0 | refine pd_dict1 ?_ | refine pd_tup ?_ | refine pd_lst ?_)
    · intro v1 H1 s1 d1
      cases d1 with
      | @lst l1 xs1 _ e1 n1 w1 =>
        refine ⟨_, rfl, fun v2 H2 s2 d2 => ?_⟩
        cases d2 with
        | @lst l2 xs2 _ e2 n2 w2 =>
          have z1 := w1.length
          have z2 := w2.length
          refine ⟨l1, l2, xs1, xs2, rfl, rfl, s2 _ _ (of_sub e1).2, (of_sub e2).2, ?_, fun p np => ?_⟩
          · rw [z1, z2, sizeLine_eq]; decide
          have s3 : Same H2 (upd H2 p (.lst (xs1 ++ xs2))) := same_new np
          have sAll := (s1.trans s2).trans s3
          have hp3 := hp.same sAll
          have npa : p ≠ a := by
            obtain ⟨o, b, c, e, _⟩ := hp.same (s1.trans s2)
            exact fun z => by rw [z, e] at np; cases np
          refine ⟨_, rfl, _, rfl, a, p, N, xs1 ++ xs2, rfl, hp3, hN, npa, upd_same, ?_, ?_, fun i x H' hx ex hp' => ?_⟩
          · rw [List.length_append, z1, z2]; decide
          · rw [List.length_append, z1, z2]; decide
          have ds : DWs (sub H (upd H2 p (.lst (xs1 ++ xs2)))) (xs1 ++ xs2) (odd1 ++ odd2) := by
            have q1 : DWs (sub H (upd H2 p (.lst (xs1 ++ xs2)))) xs1 odd1 := w1.same (sub_more (s2.trans s3))
            have q2 : DWs (sub H (upd H2 p (.lst (xs1 ++ xs2)))) xs2 odd2 := (w2.same (sub_less s1)).same (sub_more s3)
            exact q1.append q2
          obtain ⟨d, hd, dw⟩ := ds.get' hx
          refine k x d H' (List.mem_of_getElem? hd) ((ExtP.of sAll).trans ex) hp' (dw.same fun b o e => ?_)
          obtain ⟨e0, e3⟩ := of_sub e
          refine sub_of e0 (ex b o (fun z => ?_) e3)
          obtain ⟨_, _, _, ea, _⟩ := hp
          rw [z, ea] at e0
          cases e0
/-- what is drawn, as any value -/
theorem odd_vd {as : List Addr} {H H' : Hp} {v : V} {d : PyData} (hp : OkA as H) (hd : d ∈ odd1 ++ odd2) (h : DW (sub H H') v d) : ∃ e, VD K (hid as H') v e := by
  have s : Same (sub H H') (hid as H') := fun b o e => by
    obtain ⟨e0, e1⟩ := of_sub e
    rw [hid_ne (fun z : b ∈ as => hp b z e0)]
    exact e1
  have h := h.same s
  have key : ∀ d ∈ odd1 ++ odd2, (∃ ps, d = .dict ps) ∨ Nice 100000 30 d := by
    have e : ((odd1 ++ odd2).all fun d => (match d with | .dict _ => true | _ => false) || (d.canLay0 && (decide (d.depth ≤ 30) && (decide (d.weight ≤ 100000) && (d.intsShort 13 && d.showable))))) = true := by decide +kernel
    intro d hd
    have := List.all_eq_true.mp e d hd
    rcases Bool.or_eq_true_iff.mp this with h | h
    · cases d with
      | dict ps => exact .inl ⟨ps, rfl⟩
      | _ => cases h
    · simp only [Bool.and_eq_true, decide_eq_true_eq] at h
      obtain ⟨h1, h2, h3, h4, h5⟩ := h
      exact .inr ⟨h1, h2, h3, h4, h5⟩
  rcases key d hd with ⟨ps, rfl⟩ | n
  · cases h with
    | @dic b kvs _ hb _ => exact ⟨.dict [], .inr ⟨b, kvs, rfl, hb, rfl⟩⟩
  · exact ⟨d, .inl ⟨dw_dp h n.lay, n⟩⟩
end
end K6
set_option Elab.async false
set_option linter.all false
set_option maxRecDepth 100000
set_option maxHeartbeats 1500000
set_option pp.maxSteps 1200
set_option pp.deepTerms false
namespace K6
open PySem PySem.Spec PyProof.Rows L2 Lk
abbrev sBent : Stmt := top 70
section
variable {P : Program} {w : World} {K : PySem.W.Frag} {mg : Str → Option Value} {base : Heap} {f : Addr} {fd : FuncData}
/-! ### _law_bent -/
def spBent (K : PySem.W.Frag) (j : Nat) : Sp := fun vs H Q _ => ∃ (a : Addr) (as : List Addr) (v : V) (d : PyData) (N : Nat), vs = [.ref a, v] ∧ PotA a as N H ∧ N + 2 * j ≤ 100000 ∧ j ≤ 50 ∧ Dp K (hid as H) v d ∧ Bn j d ∧
  ∀ (u : V) (e : PyData) (H' : Hp), ExtP a H H' → PotA a as (N + 2 * j) H' → Dp K (hid as H') u e → Nice (cB j) j e → Q u H'
theorem scBent : FnScope ["pot", "value", "at"] ["pot", "value"] (defScope sBent) := ⟨rfl, rfl, rfl, by decide +kernel, rfl, by decide +kernel, by decide +kernel⟩
/-- one of a list of data -/
theorem pick_dp {K : PySem.W.Frag} {a : Addr} {as : List Addr} {H H' : Hp} {xs : List V} {ds : List PyData} {c k : Nat} (ha : a ∈ as) (h : DpAll K (hid as H) xs ds) (n : ∀ d ∈ ds, Nice c k d) {i : Nat} {x : V} (hx : xs[i]? = some x) (x' : ExtP a H H') : ∃ d, Dp K (hid as H') x d ∧ Nice c k d := by
  have l := DpAll.len h
  have hi : i < ds.length := by
    rw [← l]
    exact (List.getElem?_eq_some_iff.mp hx).1
  obtain ⟨v, e, g⟩ := DpAll.get h (List.getElem?_eq_getElem hi)
  rw [hx] at e
  cases e
  exact ⟨_, dp_ext ha g x', n _ (List.getElem_mem hi)⟩
theorem asc_app {z y : Str} (hz : ascB z) (hy : ascB y) : ascB (z ++ y) := fun c hc => by
  have e : (z ++ y).cps = z.cps ++ y.cps := rfl
  rw [e, Array.toList_append] at hc
  exact (List.mem_append.mp hc).elim (hz c) (hy c)
theorem asc_cut {z : Str} (hz : ascB z) (lo hi : Option Int) : ascB (cutS z lo hi) := fun c hc => hz c (List.mem_of_mem_drop (List.mem_of_mem_take hc))
theorem asc_a : ascB "a" := by unfold ascB; decide +kernel
theorem ok_bentJ {f1 f2 : Addr} {fd1 fd2 : FuncData} (F : Fun K "_law_bent" "_law_bent" sBent f fd) (T : Bl mg) (Cc : Cn mg) (hB : mg "bool" = none) (aB : At K mg "_law_bent" f fd ["pot", "value"])
    (G1 : FnOk P w K mg base CX0 1 f1 fd1 ["pot", "upto"] spTake) (a1 : At K mg "_law_take" f1 fd1 ["pot", "upto"])
    (G2 : FnOk P w K mg base CX0 2 f2 fd2 ["pot", "some"] (spOfA K)) (a2 : At K mg "_law_of" f2 fd2 ["pot", "some"]) :
    ∀ j, FnOk P w K mg base CX0 (j + 3) f fd ["pot", "value"] (spBent K j) := by
  intro j
  induction j with
  | zero =>
    refine F.ok scBent (fun vs H Q E h => ?_) (fun cdv A outer s H vs Q E hr h => ?_)
    · obtain ⟨a, as, v, d, N, rfl, _⟩ := h
      rfl
    · obtain ⟨a, as, v, d, N, rfl, _, _, _, _, hb, _⟩ := h
      exact hb.elim
  | succ j G0 =>
  refine F.ok scBent (fun vs H Q E h => ?_) (fun cdv A outer s H vs Q E hr h => ?_)
  · obtain ⟨a, as, v, d, N, rfl, _⟩ := h
    rfl
  · obtain ⟨a, as, v, d, N, rfl, hp, hN, hj, hv, hb, k⟩ := h
    have nd := scBent.nd
    have hu64 := room64 hr
    have hr1 : Room 1 _ := hr.mono (by omega)
    have hr2 : Room 2 _ := hr.mono (by omega)
    refine ⟨_, pss_cons (ps_if (PW.pt (pw_and (pt_val (pe_callB call_isi (by rfl) T.isin boot_isinstance (pa_cons (pv 1) (pa_cons (pe_bltn (v := .ty "tuple") (by rfl) Cc.tuple rfl rfl) pa_nil)))) (pw_and (pt_cmpR (op_neD hu64) (pv 1) (pe_tup pa_nil) (nomark _))
            (pw_and1 (pt_cmpR op_gt (pe_call G1 hr1 (by rfl) a1.m a1.kp a1.b .nil pass0 (pa_cons (pv 0) (pa_cons pe_int pa_nil))) pe_int (nomark _))))))
          (pss_cons (ps_set (i := 2) nd rfl (.inl rfl) (pe_call G1 hr1 (by rfl) a1.m a1.kp a1.b .nil pass0 (pa_cons (pv 0) (pa_cons (pe_callB call_len_seq (by rfl) T.len PySem.boot_len (pa_cons (pv 1) pa_nil)) pa_nil))))
          (pss_one (ps_ret (pe_op op_catA (pe_op op_catA (pe_slice sl_tupA (pv 1) po_none (po_some (pv 2))) (pe_tup (pa_cons (pe_call G0 hr (by rfl) aB.m aB.kp aB.b .nil pass0 (pa_cons (pv 0) (pa_cons (pe_ix ix_tup (pv 1) (pv 2) (fun _ _ => rfl)) pa_nil))) pa_nil))) (pe_slice sl_tupA (pv 1) (po_some (pe_op op_add (pv 2) pe_int)) po_none))))) pss_nil)
      (pss_cons (ps_if (pt_val (pe_callB call_isi (by rfl) T.isin boot_isinstance (pa_cons (pv 1) (pa_cons (pe_bltn (v := .ty "tuple") (by rfl) Cc.tuple rfl rfl) pa_nil))))
          (pss_one (ps_ret (pe_call G2 hr2 (by rfl) a2.m a2.kp a2.b .nil pass0 (pa_cons (pv 0) (pa_cons (pe_lst (pa_cons (pe_callTy call_list_of rfl T.list boot_list (pa_cons (pv 1) pa_nil)) (pa_cons (pe_slice sl_tupA (pv 1) (po_some pe_int) po_none) (pa_cons (pe_slice sl_tupA (pv 1) po_none (po_some pe_neg1))
            (pa_cons (pe_op op_catA (pv 1) (pe_slice sl_tupA (pv 1) (po_some pe_neg1) po_none)) (pa_cons (pe_rev (pv 1) pe_neg1) (pa_cons (pe_tup pa_nil) (pa_cons pe_non pa_nil)))))))) pa_nil))))) pss_nil)
      (pss_cons (ps_if (pt_val (pe_callB call_isi (by rfl) T.isin boot_isinstance (pa_cons (pv 1) (pa_cons (pe_bltn (v := .ty "bool") (by rfl) hB rfl rfl) pa_nil)))) pss_no pss_nil)
      (pss_cons (ps_if (pt_val (pe_callB call_isi (by rfl) T.isin boot_isinstance (pa_cons (pv 1) (pa_cons (pe_bltn (v := .ty "int") (by rfl) T.int rfl rfl) pa_nil)))) pss_no pss_nil)
      (pss_cons (ps_if (pt_val (pe_callB call_isi (by rfl) T.isin boot_isinstance (pa_cons (pv 1) (pa_cons (pe_bltn (v := .ty "str") (by rfl) Cc.str rfl rfl) pa_nil))))
          (pss_one (ps_ret (pe_call G2 hr2 (by rfl) a2.m a2.kp a2.b .nil pass0 (pa_cons (pv 0) (pa_cons (pe_lst (pa_cons (pe_op op_add_str (pv 1) pe_str) (pa_cons (pe_slice sl_str (pv 1) po_none (po_some pe_neg1)) (pa_cons (pe_upper (pv 1)) (pa_cons pe_str (pa_cons pe_str (pa_cons pe_non (pa_cons pe_int (pa_cons (pe_lst (pa_cons (pv 1) pa_nil)) pa_nil))))))))) pa_nil))))) pss_nil)
      pss_no)))), ?_⟩
    rcases hb with ⟨z, rfl, za, zl⟩ | ⟨ds, rfl, dl, hd⟩
    · cases hv
      refine ⟨_, rfl, _, _, _, _, false, rfl, .ty _, .base (.str _), by rfl, _, rfl, iteB rfl (iteB rfl ?_)⟩
      refine ⟨_, rfl, _, _, _, _, false, rfl, .ty _, .base (.str _), by rfl, _, rfl, iteB rfl ?_⟩
      refine ⟨_, rfl, _, _, _, _, false, rfl, .ty _, .base (.str _), by rfl, _, rfl, iteB rfl ?_⟩
      refine ⟨_, rfl, _, _, _, _, false, rfl, .ty _, .base (.str _), by rfl, _, rfl, iteB rfl ?_⟩
      refine ⟨_, rfl, _, _, _, _, true, rfl, .ty _, .base (.str _), by rfl, _, rfl, iteT ?_⟩
      have zs : z.length ≤ sizeLine := by rw [sizeLine_eq]; omega
      have a1 : ("a" : Str).length = 1 := by decide +kernel
      refine ⟨_, rfl, _, rfl, z, "a", rfl, rfl, by rw [sizeLine_eq, a1]; omega, _, rfl, _, rfl, z, rfl, zs, _, rfl, ⟨_, rfl⟩, z, rfl, rfl, by omega, ?_⟩
      refine ⟨_, rfl, few_ok rfl, fun l1 nl1 => ⟨few_ok rfl, fun l2 nl2 => ?_⟩⟩
      have d1 : Dp K (hid as (upd H l1 (.lst [.str z]))) (.ref l1) (.list [.str z]) := dp_newL hp.ne nl1 (.cons (.str _) .nil)
      have s1 : Same H (upd H l1 (.lst [.str z])) := same_new nl1
      generalize upd H l1 (.lst [.str z]) = H1 at d1 s1 nl2 ⊢
      have p1 := hp.same s1
      have c20 := cB_mono (j + 1)
      obtain ⟨DS, all1, nall⟩ : ∃ DS, DpAll K (hid as H1) [.str (z ++ "a"), .str (cutS z none (some (-1))), .str (Txt.upper z), .str "a", .str "back", .non, .int 0, .ref l1] DS ∧ ∀ e ∈ DS, Nice (cB (j + 1)) (j + 1) e := by
        refine ⟨[.str (z ++ "a"), .str (cutS z none (some (-1))), .str (Txt.upper z), .str "a", .str "back", .none, .int 0, .list [.str z]], .cons (.str _) (.cons (.str _) (.cons (.str _) (.cons (.str _) (.cons (.str _) (.cons .non (.cons (.int _) (.cons d1 .nil))))))), fun e he => ?_⟩
        simp only [List.mem_cons, List.not_mem_nil, or_false] at he
        rcases he with rfl | rfl | rfl | rfl | rfl | rfl | rfl | rfl
        · exact (Nice.str (n := 9) (asc_ok (asc_app za asc_a)) (by show (z.cps ++ ("a" : Str).cps).size ≤ 9; rw [Array.size_append]; have : ("a" : Str).cps.size = 1 := a1; have : z.cps.size ≤ 8 := zl; omega)).mono (by omega) (by omega)
        · exact (Nice.str (n := 9) (asc_ok (asc_cut za _ _)) (by have := cutS_length z none (some (-1)); omega)).mono (by omega) (by omega)
        · exact (Nice.str (n := 9) (asc_upper za).1 (by rw [(asc_upper za).2]; omega)).mono (by omega) (by omega)
        · exact (Nice.str (n := 9) (asc_ok asc_a) (by decide +kernel)).mono (by omega) (by omega)
        · exact (Nice.str (n := 9) (by decide +kernel) (by decide +kernel)).mono (by omega) (by omega)
        · exact nice_none.mono (Nat.zero_le _) (Nat.zero_le _)
        · exact (Nice.nat (i := 0) (by decide)).mono (by omega) (Nat.zero_le _)
        · refine (Nice.lst (c := 8) (k := 0) (m := 1) (fun e he => ?_) (by simp)).mono (by omega) (by omega)
          rw [List.mem_singleton.mp he]
          exact Nice.str (asc_ok za) zl
      have s2 : Same H1 (upd H1 l2 (.lst [.str (z ++ "a"), .str (cutS z none (some (-1))), .str (Txt.upper z), .str "a", .str "back", .non, .int 0, .ref l1])) := same_new nl2
      refine ⟨a, l2, _, _, rfl, (p1.same s2).pot, by omega, p1.nea nl2, .inl upd_same, (show 0 < 8 by decide), (show 8 ≤ 1000 by decide), fun i x H' hx x' p' => ?_⟩
      obtain ⟨e, de, ne⟩ := pick_dp hp.mem (DpAll.same (hid_same s2) all1) nall hx x'
      exact k _ e _ ((ExtP.of (s1.trans s2)).trans x') (((p1.same s2).ext x' p').mono (by omega)) de ne
    · have hvv := hv
      cases hv with
      | @tup q xs _ hs h =>
        have xl := DpAll.len h
        have shp : SeqAt.shaped (.tuple ds) = true := (bn_nice (j + 1) (.tuple ds) (.inr ⟨ds, rfl, dl, hd⟩)).shaped (by omega)
        refine ⟨_, rfl, _, _, _, _, true, rfl, .ty _, sqT_ty (sqT_same hid_sub hs), by rfl, _, rfl, iteT ?_⟩
        refine ⟨_, rfl, few_ok rfl, fun e0 ne0 => ?_⟩
        have s0 : Same H (upd H e0 (.tup [])) := same_new ne0
        refine ⟨.tuple ds, .tuple [], dp_hid (Dp.same (hid_same s0) hvv), .tup (SqT.of upd_same) .nil, shp, by decide, _, rfl, ?_⟩
        generalize upd H e0 (.tup []) = H0 at s0 ⊢
        have p0 := hp.same s0
        have hs0 : SqT K (hid as H0) q xs := sqT_same (hid_same s0) hs
        have h0 := DpAll.same (hid_same s0) h
        have X0 : ExtP a H H0 := .of s0
        by_cases en : ds = []
        · refine iteB (by subst en; simp [PyData.eqv, PyData.eqvAll]) (iteB rfl ?_)
          refine ⟨_, rfl, _, _, _, _, true, rfl, .ty _, sqT_ty (sqT_same hid_sub hs0), by rfl, _, rfl, iteT ?_⟩
          refine ⟨_, rfl, _, rfl, q, xs, rfl, .inr (sqT_same hid_sub hs0), fun l1 nl1 => ?_⟩
          have d1 : Dp K (hid as (upd H0 l1 (.lst xs))) (.ref l1) (.list ds) := dp_newL p0.ne nl1 h0
          have s1 : Same H0 (upd H0 l1 (.lst xs)) := same_new nl1
          generalize upd H0 l1 (.lst xs) = H1 at d1 s1 ⊢
          have p1 := p0.same s1
          have v1 : Dp K (hid as H1) (.ref q) (.tuple ds) := Dp.same (hid_same s1) (.tup hs0 h0)
          refine ⟨_, rfl, _, rfl, ?_⟩
          try unfold tNoPart
          refine slice_dp p1.ne v1 fun q2 H2 e2 s2 m2 l2 d2 => ?_
          have p2 := p1.same s2
          have v2 := Dp.same (hid_same s2) v1
          refine ⟨_, rfl, _, rfl, ?_⟩
          try unfold tNoPart
          refine slice_dp p2.ne v2 fun q3 H3 e3 s3 m3 l3 d3 => ?_
          have p3 := p2.same s3
          have v3 := Dp.same (hid_same s3) v2
          refine ⟨_, rfl, _, rfl, _, rfl, ?_⟩
          try unfold tNoPart
          refine slice_dp p3.ne v3 fun q4 H4 e4 s4 m4 l4 d4 => ?_
          have p4 := p3.same s4
          have v4 := Dp.same (hid_same s4) v3
          refine cat_dp p4.ne v4 d4 (by omega) fun q5 H5 s5 d5 => ?_
          have p5 := p4.same s5
          have v5 := Dp.same (hid_same s5) v4
          refine ⟨_, rfl, rev_dp p5.ne v5 fun q6 H6 s6 d6 => ?_⟩
          have p6 := p5.same s6
          refine ⟨few_ok rfl, fun q7 nq7 => ⟨few_ok rfl, fun q8 nq8 => ?_⟩⟩
          have d7 : Dp K (hid as (upd H6 q7 (.tup []))) (.ref q7) (.tuple []) := dp_new p6.ne nq7 .nil
          have s7 : Same H6 (upd H6 q7 (.tup [])) := same_new nq7
          generalize upd H6 q7 (.tup []) = H7 at d7 s7 nq8 ⊢
          have p7 := p6.same s7
          have t36 := ((s4.trans s5).trans s6).trans s7
          obtain ⟨DS, all7, nall⟩ : ∃ DS, DpAll K (hid as H7) [.ref l1, .ref q2, .ref q3, .ref q5, .ref q6, .ref q7, .non] DS ∧ ∀ e ∈ DS, Nice (cB (j + 1)) (j + 1) e := by
            refine ⟨[.list ds, .tuple e2, .tuple e3, .tuple (ds ++ e4), .tuple ds.reverse, .tuple [], .none], .cons (Dp.same (hid_same ((s2.trans s3).trans t36)) d1) (.cons (Dp.same (hid_same (s3.trans t36)) d2) (.cons (Dp.same (hid_same t36) d3) (.cons (Dp.same (hid_same (s6.trans s7)) d5) (.cons (Dp.same (hid_same s7) d6) (.cons d7 (.cons .non .nil)))))), fun e he => ?_⟩
            have nt : ∀ es : List PyData, (∀ e ∈ es, e ∈ ds) → es.length ≤ 6 → Nice (cB (j + 1)) (j + 1) (.tuple es) := fun es hes hl => (Nice.tup (fun e he => bn_nice j e (hd e (hes e he))) (show es.length ≤ 13 by omega)).mono (Nat.le_refl _) (Nat.le_refl _)
            simp only [List.mem_cons, List.not_mem_nil, or_false] at he
            rcases he with rfl | rfl | rfl | rfl | rfl | rfl | rfl
            · exact (Nice.lst (fun e he => bn_nice j e (hd e he)) (show ds.length ≤ 13 by omega)).mono (Nat.le_refl _) (Nat.le_refl _)
            · exact nt _ m2 (by omega)
            · exact nt _ m3 (by omega)
            · refine (Nice.tup (c := cB j) (k := j) (m := 13) (fun e he => ?_) ?_).mono (Nat.le_refl _) (Nat.le_refl _)
              · exact (List.mem_append.mp he).elim (fun h => bn_nice j e (hd e h)) fun h => bn_nice j e (hd e (m4 e h))
              · rw [List.length_append]
                omega
            · exact nt _ (fun e he => List.mem_reverse.mp he) (by rw [List.length_reverse]; omega)
            · exact nt [] (fun e he => by cases he) (by simp)
            · exact nice_none.mono (Nat.zero_le _) (Nat.zero_le _)
          have s8 : Same H7 (upd H7 q8 (.lst [.ref l1, .ref q2, .ref q3, .ref q5, .ref q6, .ref q7, .non])) := same_new nq8
          refine ⟨a, q8, _, _, rfl, (p7.same s8).pot, by omega, p7.nea nq8, .inl upd_same, (show 0 < 7 by decide), (show 7 ≤ 1000 by decide), fun i x H' hx x' p' => ?_⟩
          obtain ⟨e, de, ne⟩ := pick_dp hp.mem (DpAll.same (hid_same s8) all7) nall hx x'
          have s18 := (((s1.trans s2).trans s3).trans t36).trans s8
          exact k _ e _ (X0.trans ((ExtP.of s18).trans x')) (((p7.same s8).ext x' p').mono (by omega)) de ne
        refine iteA (by cases ds with | nil => exact absurd rfl en | cons d ds => simp [PyData.eqv, PyData.eqvAll]) ?_
        have dpos : 0 < ds.length := List.length_pos_iff.mpr en
        refine ⟨_, rfl, a, 7, _, rfl, p0.pot, by omega, by decide, by decide, fun i9 H9 i90 i97 x9 p9 => ⟨_, _, rfl, rfl, _, rfl, ?_⟩⟩
        have p9 := p0.ext x9 p9
        have hs2 : SqT K (hid as H9) q xs := sqT_same (hid_ext hp.mem x9) hs0
        have h9 := DpAll.same (hid_ext hp.mem x9) h0
        have X9 : ExtP a H H9 := X0.trans x9
        by_cases ig : 0 < i9
        case neg =>
          refine iteB (decide_eq_false ig) ?_
          refine ⟨_, rfl, _, _, _, _, true, rfl, .ty _, sqT_ty (sqT_same hid_sub hs2), by rfl, _, rfl, iteT ?_⟩
          refine ⟨_, rfl, _, rfl, q, xs, rfl, .inr (sqT_same hid_sub hs2), fun l1 nl1 => ?_⟩
          have d1 : Dp K (hid as (upd H9 l1 (.lst xs))) (.ref l1) (.list ds) := dp_newL p9.ne nl1 h9
          have s1 : Same H9 (upd H9 l1 (.lst xs)) := same_new nl1
          generalize upd H9 l1 (.lst xs) = H1 at d1 s1 ⊢
          have p1 := p9.same s1
          have v1 : Dp K (hid as H1) (.ref q) (.tuple ds) := Dp.same (hid_same s1) (.tup hs2 h9)
          refine ⟨_, rfl, _, rfl, ?_⟩
          try unfold tNoPart
          refine slice_dp p1.ne v1 fun q2 H2 e2 s2 m2 l2 d2 => ?_
          have p2 := p1.same s2
          have v2 := Dp.same (hid_same s2) v1
          refine ⟨_, rfl, _, rfl, ?_⟩
          try unfold tNoPart
          refine slice_dp p2.ne v2 fun q3 H3 e3 s3 m3 l3 d3 => ?_
          have p3 := p2.same s3
          have v3 := Dp.same (hid_same s3) v2
          refine ⟨_, rfl, _, rfl, _, rfl, ?_⟩
          try unfold tNoPart
          refine slice_dp p3.ne v3 fun q4 H4 e4 s4 m4 l4 d4 => ?_
          have p4 := p3.same s4
          have v4 := Dp.same (hid_same s4) v3
          refine cat_dp p4.ne v4 d4 (by omega) fun q5 H5 s5 d5 => ?_
          have p5 := p4.same s5
          have v5 := Dp.same (hid_same s5) v4
          refine ⟨_, rfl, rev_dp p5.ne v5 fun q6 H6 s6 d6 => ?_⟩
          have p6 := p5.same s6
          refine ⟨few_ok rfl, fun q7 nq7 => ⟨few_ok rfl, fun q8 nq8 => ?_⟩⟩
          have d7 : Dp K (hid as (upd H6 q7 (.tup []))) (.ref q7) (.tuple []) := dp_new p6.ne nq7 .nil
          have s7 : Same H6 (upd H6 q7 (.tup [])) := same_new nq7
          generalize upd H6 q7 (.tup []) = H7 at d7 s7 nq8 ⊢
          have p7 := p6.same s7
          have t36 := ((s4.trans s5).trans s6).trans s7
          obtain ⟨DS, all7, nall⟩ : ∃ DS, DpAll K (hid as H7) [.ref l1, .ref q2, .ref q3, .ref q5, .ref q6, .ref q7, .non] DS ∧ ∀ e ∈ DS, Nice (cB (j + 1)) (j + 1) e := by
            refine ⟨[.list ds, .tuple e2, .tuple e3, .tuple (ds ++ e4), .tuple ds.reverse, .tuple [], .none], .cons (Dp.same (hid_same ((s2.trans s3).trans t36)) d1) (.cons (Dp.same (hid_same (s3.trans t36)) d2) (.cons (Dp.same (hid_same t36) d3) (.cons (Dp.same (hid_same (s6.trans s7)) d5) (.cons (Dp.same (hid_same s7) d6) (.cons d7 (.cons .non .nil)))))), fun e he => ?_⟩
            have nt : ∀ es : List PyData, (∀ e ∈ es, e ∈ ds) → es.length ≤ 6 → Nice (cB (j + 1)) (j + 1) (.tuple es) := fun es hes hl => (Nice.tup (fun e he => bn_nice j e (hd e (hes e he))) (show es.length ≤ 13 by omega)).mono (Nat.le_refl _) (Nat.le_refl _)
            simp only [List.mem_cons, List.not_mem_nil, or_false] at he
            rcases he with rfl | rfl | rfl | rfl | rfl | rfl | rfl
            · exact (Nice.lst (fun e he => bn_nice j e (hd e he)) (show ds.length ≤ 13 by omega)).mono (Nat.le_refl _) (Nat.le_refl _)
            · exact nt _ m2 (by omega)
            · exact nt _ m3 (by omega)
            · refine (Nice.tup (c := cB j) (k := j) (m := 13) (fun e he => ?_) ?_).mono (Nat.le_refl _) (Nat.le_refl _)
              · exact (List.mem_append.mp he).elim (fun h => bn_nice j e (hd e h)) fun h => bn_nice j e (hd e (m4 e h))
              · rw [List.length_append]
                omega
            · exact nt _ (fun e he => List.mem_reverse.mp he) (by rw [List.length_reverse]; omega)
            · exact nt [] (fun e he => by cases he) (by simp)
            · exact nice_none.mono (Nat.zero_le _) (Nat.zero_le _)
          have s8 : Same H7 (upd H7 q8 (.lst [.ref l1, .ref q2, .ref q3, .ref q5, .ref q6, .ref q7, .non])) := same_new nq8
          refine ⟨a, q8, _, _, rfl, (p7.same s8).pot, by omega, p7.nea nq8, .inl upd_same, (show 0 < 7 by decide), (show 7 ≤ 1000 by decide), fun i x H' hx x' p' => ?_⟩
          obtain ⟨e, de, ne⟩ := pick_dp hp.mem (DpAll.same (hid_same s8) all7) nall hx x'
          have s18 := (((s1.trans s2).trans s3).trans t36).trans s8
          exact k _ e _ (X9.trans ((ExtP.of s18).trans x')) (((p7.same s8).ext x' p').mono (by omega)) de ne
        refine iteA (decide_eq_true ig) ?_
        refine ⟨_, rfl, _, rfl, q, xs, rfl, .inr (sqT_same hid_sub hs2), a, _, _, rfl, p9.pot, by omega, by omega, by omega, fun i1 H1 i10 i1l x1 p1 => ?_⟩
        have p1 := p9.ext x1 p1
        obtain ⟨m, rfl⟩ : ∃ m : Nat, i1 = m := ⟨i1.toNat, by omega⟩
        have ml : m < ds.length := by omega
        have v1 : Dp K (hid as H1) (.ref q) (.tuple ds) := Dp.same (hid_ext hp.mem x1) (.tup hs2 h9)
        refine ⟨_, rfl, ?_⟩
        try unfold tNoPart
        refine ⟨_, rfl, (m : Int), rfl, slice_dp p1.ne v1 fun q2 H2 e2 s2 m2 l2 d2 => ?_⟩
        have p2 := p1.same s2
        have v2 := Dp.same (hid_same s2) v1
        have hs3 : SqT K (hid as H2) q xs := sqT_same (hid_same s2) (sqT_same (hid_ext hp.mem x1) hs2)
        have h3 : DpAll K (hid as H2) xs ds := DpAll.same (hid_same s2) (DpAll.same (hid_ext hp.mem x1) h9)
        obtain ⟨x0, hx0, dx0⟩ := DpAll.get h3 (List.getElem?_eq_getElem ml)
        have bx0 := hd _ (List.getElem_mem ml)
        generalize ds[m] = d0 at dx0 bx0
        refine ⟨_, rfl, _, rfl, _, rfl, q, _, _, _, rfl, rfl, sqT_same hid_sub hs3, atI_nat hx0, a, as, x0, d0, _, rfl, p2, by omega, by omega, dx0, bx0, fun u e H3 x3 p3 d3 n3 => ⟨few_ok rfl, fun t4 nt4 => ?_⟩⟩
        have d4 : Dp K (hid as (upd H3 t4 (.tup [u]))) (.ref t4) (.tuple [e]) := dp_new p3.ne nt4 (.cons d3 .nil)
        have s4 : Same H3 (upd H3 t4 (.tup [u])) := same_new nt4
        generalize upd H3 t4 (.tup [u]) = H4 at d4 s4 ⊢
        have p4 := p3.same s4
        refine cat_dp p4.ne (Dp.same (hid_same s4) (dp_ext hp.mem d2 x3)) d4 (by simp; omega) fun q5 H5 s5 d5 => ?_
        have p5 := p4.same s5
        have v5 := Dp.same (hid_same (s4.trans s5)) (dp_ext hp.mem v2 x3)
        refine ⟨_, rfl, ?_⟩
        try unfold tNoPart
        refine ⟨_, rfl, _, _, rfl, rfl, _, rfl, slice_dp p5.ne v5 fun q6 H6 e6 s6 m6 l6 d6 => ?_⟩
        have p6 := p5.same s6
        refine cat_dp p6.ne (Dp.same (hid_same s6) d5) d6 (by simp; omega) fun q7 H7 s7 d7 => ?_
        have s47 := ((s4.trans s5).trans s6).trans s7
        refine k _ _ _ (X9.trans (x1.trans ((ExtP.of s2).trans (x3.trans (.of s47))))) ((p6.same s7).mono (by omega)) d7 ?_
        refine (Nice.tup (c := cB j) (k := j) (m := 13) (fun e' he => ?_) ?_).mono (Nat.le_refl _) (Nat.le_refl _)
        · rcases List.mem_append.mp he with he | he
          · rcases List.mem_append.mp he with he | he
            · exact bn_nice j _ (hd _ (m2 _ he))
            · rw [List.mem_singleton.mp he]
              exact n3
          · exact bn_nice j _ (hd _ (m6 _ he))
        · simp only [List.length_append, List.length_cons, List.length_nil]
          omega
theorem ok_bent {f1 f2 : Addr} {fd1 fd2 : FuncData} (F : Fun K "_law_bent" "_law_bent" sBent f fd) (T : Bl mg) (Cc : Cn mg) (hB : mg "bool" = none) (aB : At K mg "_law_bent" f fd ["pot", "value"])
    (G1 : FnOk P w K mg base CX0 1 f1 fd1 ["pot", "upto"] spTake) (a1 : At K mg "_law_take" f1 fd1 ["pot", "upto"])
    (G2 : FnOk P w K mg base CX0 2 f2 fd2 ["pot", "some"] (spOfA K)) (a2 : At K mg "_law_of" f2 fd2 ["pot", "some"]) :
    FnOk P w K mg base CX0 6 f fd ["pot", "value"] (spBent K 3) := ok_bentJ F T Cc hB aB G1 a1 G2 a2 3
end
end K6
set_option Elab.async false
set_option linter.all false
set_option maxRecDepth 100000
set_option maxHeartbeats 1500000
set_option pp.maxSteps 1200
set_option pp.deepTerms false
namespace K6
open PySem PySem.Spec PyProof.Rows L2 Lk
theorem nomem_false {P : Prop} {b : Bool} (h : b = true ↔ P) (n : ¬ P) : b = false := by
  cases b with
  | false => rfl
  | true => exact absurd (h.mp rfl) n
section
variable {P : Program} {w : World} {K : PySem.W.Frag} {mg : Str → Option Value} {base : Heap} {f : Addr} {fd : FuncData}
/-! ### any value: is_told -/
def spIsRowV (K : PySem.W.Frag) : Sp := fun vs H Q _ => ∃ (v : V) (d : PyData) (n : Int), vs = [v, .int n] ∧ VD K H v d ∧ ∀ b : Bool, (b = true ↔ ∃ ds, d = .tuple ds ∧ (ds.length : Int) = n) → Q (.bl b) H
theorem ok_isRowV (F : Fun K "is_row" "is_row" sIsRow f fd) (T : Bl mg) (Cc : Cn mg) : FnOk P w K mg base CX0 1 f fd ["value", "many"] (spIsRowV K) := by
  refine F.ok scIsRow (fun vs H Q E h => ?_) (fun cdv A outer s H vs Q E hr h => ?_)
  · obtain ⟨v, d, n, rfl, _⟩ := h
    rfl
  · obtain ⟨v, d, n, rfl, hv, k⟩ := h
    refine ⟨_, pss_one (ps_ret (pe_and (pe_callB call_isi (by rfl) T.isin boot_isinstance (pa_cons (pv 0) (pa_cons (pe_bltn (v := .ty "tuple") (by rfl) Cc.tuple rfl rfl) pa_nil)))
      (pe_one (pe_cmpR op_eq (pe_callB call_len_seq (by rfl) T.len PySem.boot_len (pa_cons (pv 0) pa_nil)) (pv 1) (nomark _))))), ?_⟩
    obtain ⟨t, ty, kt, _⟩ := vd_isi hv
    refine ⟨_, rfl, _, _, t, _, isTupB d, rfl, .ty _, ty, kt, _, rfl, ?_⟩
    cases e : isTupB d with
    | false =>
      refine iteB rfl (k false ⟨(fun h => by cases h), fun ⟨ds, h, _⟩ => by rw [h] at e; cases e⟩)
    | true =>
      obtain ⟨a, xs, ds, rfl, rfl, hs, ha, nn⟩ := vd_tup hv e
      refine iteT ⟨_, rfl, a, _, rfl, .inr hs, _, rfl, rfl, k _ ?_⟩
      rw [decide_eq_true_iff, DpAll.len ha]
      constructor
      · intro h
        exact ⟨ds, rfl, V.int.inj h⟩
      · rintro ⟨ds', h, h2⟩
        cases h
        rw [h2]
def spIsToldV (K : PySem.W.Frag) : Sp := fun vs H Q _ => ∃ (v : V) (d : PyData) (wd : Str) (n : Int), vs = [v, .str wd, .int n] ∧ VD K H v d ∧ PyData.strOk wd = true ∧ 1 ≤ n ∧ ∀ b : Bool, (b = true ↔ ∃ ds, d = .tuple (.str wd :: ds) ∧ (ds.length : Int) + 1 = n) → Q (.bl b) H
theorem ok_isToldV {fR : Addr} {fdR : FuncData} (F : Fun K "is_told" "is_told" sIsTold f fd) (GR : FnOk P w K mg base CX0 1 fR fdR ["value", "many"] (spIsRowV K)) (aR : At K mg "is_row" fR fdR ["value", "many"]) : FnOk P w K mg base CX0 2 f fd ["value", "word", "many"] (spIsToldV K) := by
  refine F.ok scIsTold (fun vs H Q E h => ?_) (fun cdv A outer s H vs Q E hr h => ?_)
  · obtain ⟨v, d, wd, n, rfl, _⟩ := h
    rfl
  · obtain ⟨v, d, wd, n, rfl, hv, wo, n1, k⟩ := h
    have hu64 := room64 hr
    refine ⟨_, pss_one (ps_ret (pe_and (pe_call GR hr (by rfl) aR.m aR.kp aR.b .nil pass0 (pa_cons (pv 0) (pa_cons (pv 2) pa_nil))) (pe_one (pe_cmpR (op_eqD hu64) (pe_ix ix_tup (pv 0) pe_int (fun _ _ => rfl)) (pv 1) (nomark _))))), ?_⟩
    refine ⟨_, rfl, _, rfl, v, d, n, rfl, hv, fun b hb => ⟨_, rfl, ?_⟩⟩
    cases b with
    | false =>
      refine iteB rfl (k false ⟨(fun h => by cases h), fun ⟨ds, h, hl⟩ => ?_⟩)
      exact absurd (hb.mpr ⟨_, h, by rw [List.length_cons]; exact hl⟩) (by decide)
    | true =>
      obtain ⟨ds, rfl, hl⟩ := hb.mp rfl
      obtain ⟨a, xs, ds', rfl, e, hs, ha, nn⟩ := vd_tup hv rfl
      cases e
      cases ds with
      | nil =>
        rw [List.length_nil] at hl
        omega
      | cons d0 ds =>
        obtain ⟨v0, hv0, dv0⟩ := DpAll.get ha (i := 0) rfl
        have n0 := nice_item nn d0 List.mem_cons_self
        have nw : SeqAt.shaped (.str wd) = true := by
          show (PyData.canLay0 (.str wd) && decide (PyData.depth (.str wd) ≤ 64)) = true
          simp [PyData.canLay0, PyData.depth, wo]
        refine iteT ⟨_, rfl, a, _, _, _, rfl, rfl, hs, atI_nat (j := 0) hv0, _, rfl, d0, .str wd, dv0, .str wd, n0.shaped (by decide), nw, k _ ?_⟩
        rw [eqv_str]
        constructor
        · intro h
          subst h
          exact ⟨ds, rfl, by rw [List.length_cons] at hl; omega⟩
        · rintro ⟨ds', h, _⟩
          cases h
          rfl
/-! ### any value: is_record -/
def spAreBitsV (K : PySem.W.Frag) : Sp := fun vs H Q _ => ∃ (v : V) (d : PyData) (n : Nat), vs = [v, .int (n : Int)] ∧ VD K H v d ∧ n ≤ 100 ∧ ∀ (b : Bool) (H' : Hp), Same H H' → (b = true ↔ ∃ z, d = .str z ∧ z.length = n ∧ Bits z) → Q (.bl b) H'
theorem ok_areBitsV (F : Fun K "are_bits" "are_bits" sAreBits f fd) (T : Bl mg) (C : Cn mg) : FnOk P w K mg base CX0 1 f fd ["value", "many"] (spAreBitsV K) := by
  refine F.ok scAreBits (fun vs H Q E h => ?_) (fun cdv A outer s H vs Q E hr h => ?_)
  · obtain ⟨v, d, n, rfl, _⟩ := h
    rfl
  · obtain ⟨v, d, n, rfl, hv, n1, k⟩ := h
    have nd := scAreBits.nd
    refine ⟨_, pss_one (ps_ret (pe_and (pe_callB call_isi (by rfl) T.isin boot_isinstance (pa_cons (pv 0) (pa_cons (pe_bltn (v := .ty "str") (by rfl) C.str rfl rfl) pa_nil))) (pe_and (pe_cmpR op_eq (pe_callB call_len_str (by rfl) T.len PySem.boot_len (pa_cons (pv 0) pa_nil)) (pv 1) (nomark _))
      (pe_one (pe_callB (cr_all rfl) (by rfl) T.all boot_all (pa_cons (pe_lc (own := [("sign", 2)]) (g := gName 2) (tt := tYes) (te := tOp (fun x y H Q => ∃ (c : Nat) (z : Str), x = .str ⟨#[c]⟩ ∧ y = .str z ∧ Q (.bl (decide (c ∈ z.cps.toList))) H) (tVar 2) (tC (.str "01"))) rfl nd (pi_str (pv 0)) (blkOk_by (N := ["value", "many", "sign"]) (sc := defScope sAreBits) (by decide +kernel))
          (fun _ _ _ _ _ => pg_name (i := 2) nd rfl (Or.inl rfl)) (fun _ _ _ _ _ => pts_nil) (fun _ _ _ _ _ => pe_cmpR op_in_sign (pv 2) pe_str rfl)) pa_nil)))))), ?_⟩
    obtain ⟨t, ty, _, kt⟩ := vd_isi hv
    refine ⟨_, rfl, _, _, t, _, isStrB d, rfl, .ty _, ty, kt, _, rfl, ?_⟩
    cases e : isStrB d with
    | false => exact iteB rfl (k false _ (Same.refl _) ⟨(fun h => by cases h), fun ⟨z, h, _⟩ => by rw [h] at e; cases e⟩)
    | true =>
      obtain ⟨z, rfl, rfl, zl, _⟩ := vd_str hv e
      refine iteT ⟨_, rfl, z, rfl, by rw [sizeLine_eq]; omega, _, rfl, rfl, _, rfl, ?_⟩
      by_cases hl : z.length = n
      · refine iteA (decide_eq_true (by rw [hl])) ?_
        have zz : z.cps.toList.length ≤ 100 := by
          have : z.cps.toList.length = z.length := by simp [Str.length]
          omega
        refine ⟨_, rfl, z, rfl, str_lc (Q := fun x H1 => rAll K [x] H1 Q) (fun c => some (.bl (decide (c ∈ ("01" : Str).cps.toList)))) (by omega) ?_ ?_⟩
        · intro i c H1 R Rn hc s1 k1 k2
          exact ⟨rfl, _, rfl, c, "01", rfl, rfl, k1 _ _ rfl (Same.refl _)⟩
        · intro D H1 nD s1 e
          rw [fm_bl] at e
          refine ⟨D, _, rfl, SqL.of e, k _ _ s1 ?_⟩
          have c01 : ∀ c : Nat, c ∈ ("01" : Str).cps.toList ↔ c = 48 ∨ c = 49 := fun c => by
            rw [show ("01" : Str).cps.toList = [48, 49] from by decide +kernel]
            simp
          rw [List.all_eq_true]
          constructor
          · intro h
            refine ⟨z, rfl, hl, fun c hc => ?_⟩
            have := h _ (List.mem_map.mpr ⟨c, hc, rfl⟩)
            exact (c01 c).mp (of_decide_eq_true this)
          · rintro ⟨z', h, _, hb⟩ b hb2
            cases h
            obtain ⟨c, hc, rfl⟩ := List.mem_map.mp hb2
            exact decide_eq_true ((c01 c).mpr (hb c hc))
      · refine iteB (decide_eq_false fun h => hl ?_) (k false _ (Same.refl _) ⟨fun h => (by cases h), fun ⟨z', h, h2, _⟩ => ?_⟩)
        · have := V.int.inj h
          omega
        · cases h
          exact absurd h2 hl
def spIsRecordV (K : PySem.W.Frag) (C CS : Addr) : Sp := fun vs H Q _ => ∃ (x : Addr) (L : Lore) (v : V) (d : PyData), vs = [.ref x, v] ∧ ShAt H C CS x L ∧ LoreOk L ∧ VD K H v d ∧ ∀ (b : Bool) (H' : Hp), Same H H' → (b = true ↔ ∃ r : Vec, r.length = L.parts.length ∧ d = .str (stv r)) → Q (.bl b) H'
theorem ok_isRecordV {C CS fS f1 : Addr} {fd1 : FuncData} (F : Fun K "is_record" "is_record" sIsRecord f fd) (T : Bl mg) (SC : ShC K CS fS) (G1 : FnOk P w K mg base CX0 1 f1 fd1 ["value", "many"] (spAreBitsV K)) (a1 : At K mg "are_bits" f1 fd1 ["value", "many"]) :
    FnOk P w K mg base CX0 2 f fd ["shelf", "value"] (spIsRecordV K C CS) := by
  refine F.ok scIsRecord (fun vs H Q E h => ?_) (fun cdv A outer s H vs Q E hr h => ?_)
  · obtain ⟨x, L, v, d, rfl, _⟩ := h
    rfl
  · obtain ⟨x, L, v, d, rfl, ⟨dx, fs, hx, sf, _⟩, ok, hv, k⟩ := h
    obtain ⟨pa, lp, tpa⟩ := sf.parts
    have p4 := ok.p4
    refine ⟨_, pss_one (ps_ret (pe_call G1 hr (by rfl) a1.m a1.kp a1.b .nil pass0 (pa_cons (pv 1) (pa_cons (pe_callB call_len_seq (by rfl) T.len PySem.boot_len (pa_cons (pe_fld (pv 0) rfl) pa_nil)) pa_nil)))), ?_⟩
    refine ⟨_, rfl, _, rfl, x, CS, dx, fs, .ref pa, rfl, hx, SC.cls, SC.parts, lp, pa, _, rfl, .inr tpa.sq, v, d, L.parts.length, ?_, hv, by omega, fun b H' s' hb => k b H' s' ?_⟩
    · rw [List.length_map]
      rfl
    · rw [hb]
      constructor
      · rintro ⟨z, rfl, zl, zb⟩
        obtain ⟨r, rl, rfl⟩ := recOk_of (L := L) ⟨zl, zb⟩
        exact ⟨r, rl, rfl⟩
      · rintro ⟨r, rl, rfl⟩
        exact ⟨_, rfl, (recOk_stv (L := L) rl).1, (recOk_stv (L := L) rl).2⟩
/-! ### any value: is_lot -/
theorem any_str (ds : List PyData) (z : Str) : (ds.any fun d => PyData.eqv d (.str z)) = true ↔ PyData.str z ∈ ds := by
  rw [List.any_eq_true]
  constructor
  · rintro ⟨d, hd, e⟩
    rw [eqv_str] at e
    rw [← e]
    exact hd
  · intro h
    exact ⟨_, h, (eqv_str _ _).mpr rfl⟩
theorem any_strs (zs : List Str) (z : Str) : ((strsD zs).any fun d => PyData.eqv d (.str z)) = decide (z ∈ zs) := by
  rw [Bool.eq_iff_iff, any_str, decide_eq_true_iff]
  unfold strsD
  constructor
  · intro h
    obtain ⟨y, hy, e⟩ := List.mem_map.mp h
    cases e
    exact hy
  · intro h
    exact List.mem_map.mpr ⟨z, h, rfl⟩
/-- the names that stand in the value, in their order, are the value -/
theorem lot_iff {ns : List Str} (nd : ns.Nodup) (ds : List PyData) : PyData.eqv (.tuple ds) (.tuple (strsD (ns.filter fun z => ds.any fun d => PyData.eqv d (.str z)))) = true ↔ ∃ zs, PyData.tuple ds = .tuple (strsD zs) ∧ zs.Sublist ns := by
  rw [eqvD_strs]
  constructor
  · intro h
    exact ⟨_, h, List.filter_sublist⟩
  · rintro ⟨zs, h, hs⟩
    cases h
    have e : (ns.filter fun z => (strsD zs).any fun d => PyData.eqv d (.str z)) = ns.filter fun z => decide (z ∈ zs) := List.filter_congr fun z _ => any_strs zs z
    rw [e, sub_filterG hs nd]
def spIsLotV (K : PySem.W.Frag) (C : Addr) : Sp := fun vs H Q _ => ∃ (c : Addr) (ns : List Str) (v : V) (d : PyData), vs = [.ref c, v] ∧ CircAt H C c ns ∧ NmOk ns ∧ VD K H v d ∧ ∀ (b : Bool) (H' : Hp), Same H H' → (b = true ↔ ∃ zs, d = .tuple (strsD zs) ∧ zs.Sublist ns) → Q (.bl b) H'
theorem ok_isLotV {C fC : Addr} (F : Fun K "is_lot" "is_lot" sIsLot f fd) (T : Bl mg) (Cc : Cn mg) (CC : CircC K C fC) : FnOk P w K mg base CX0 1 f fd ["circle", "value"] (spIsLotV K C) := by
  refine F.ok scIsLot (fun vs H Q E h => ?_) (fun cdv A outer s H vs Q E hr h => ?_)
  · obtain ⟨c, ns, v, d, rfl, _⟩ := h
    rfl
  · obtain ⟨c, ns, v, d, rfl, ⟨cdx, nm, ec, en⟩, nok, hv, k⟩ := h
    have nd := scIsLot.nd
    have hu65 := room65 hr
    refine ⟨_, pss_one (ps_ret (pe_and (pe_callB call_isi (by rfl) T.isin boot_isinstance (pa_cons (pv 1) (pa_cons (pe_bltn (v := .ty "tuple") (by rfl) Cc.tuple rfl rfl) pa_nil)))
      (pe_one (pe_cmpR (op_eqD (room64 hr)) (pv 1) (pe_tupleOf (by rfl) Cc.tuple (pe_lc (own := [("name", 2)]) (g := gName 2) (tt := tTest (tOp (rInDT K) (tVar 2) (tVar 1))) (te := tVar 2) rfl nd (pi_tup (pe_fld (pv 0) rfl))
        (blkOk_by (N := ["circle", "value", "name"]) (sc := defScope sIsLot) (by decide +kernel)) (fun _ _ _ _ _ => pg_name (i := 2) nd rfl (.inl rfl)) (fun _ _ _ _ _ => pts_one (pt_cmpR (op_inDT hu65) (pv 2) (pv 1) rfl)) (fun _ _ _ _ _ => pv 2))) (nomark _))))), ?_⟩
    obtain ⟨t, ty, kt, _⟩ := vd_isi hv
    refine ⟨_, rfl, _, _, t, _, isTupB d, rfl, .ty _, ty, kt, _, rfl, ?_⟩
    cases e : isTupB d with
    | false => exact iteB rfl (k false _ (Same.refl _) ⟨(fun h => by cases h), fun ⟨ds, h, _⟩ => by rw [h] at e; cases e⟩)
    | true =>
      obtain ⟨a, xs, ds, rfl, rfl, hs, ha, nn⟩ := vd_tup hv e
      have shd := nn.shaped (by decide)
      refine iteT ?_
      refine ⟨_, rfl, _, rfl, c, C, cdx, _, .ref nm, rfl, ec, CC.cls, CC.nm, rfl, nm, rfl, ⟨_, en.sq⟩, fun D nD => lc_fm (walk_tup (a := nm) (xs := ns.map V.str)) ns (fun z => if (ds.any fun d => PyData.eqv d (.str z)) = true then some (V.str z) else none) (by rw [List.length_map]) (by rw [List.length_map]; have := nok.k6; omega) nD (fun H s => (en.same s).sq) ?_ ?_⟩
      · rintro i u z H2 H2' R Rn hz s2 ⟨rfl, hu⟩ k1 k2
        obtain rfl : V.str z = u := by
          rw [List.getElem?_map, hz] at hu
          exact Option.some.inj hu
        have zo := nok.ok z (List.mem_of_getElem? hz)
        refine ⟨rfl, _, rfl, _, rfl, .str z, ds, .str z, .tup (sqT_same s2 hs) (DpAll.same s2 ha), (Nice.str zo.1 zo.2).shaped (by decide), shd, _, rfl, ?_⟩
        by_cases h : (ds.any fun d => PyData.eqv d (.str z)) = true
        · exact iteA h ⟨_, rfl, k1 _ _ (if_pos h) (Same.refl _)⟩
        · exact iteB (by simpa using h) (k2 _ (if_neg h) (Same.refl _))
      · intro H2 s2 eD
        rw [fm_strs] at eD
        refine .inl ⟨D, _, rfl, SqL.of eD, fun q nq => ?_⟩
        have s3 : Same H2 (upd H2 q (.tup ((ns.filter fun z => ds.any fun d => PyData.eqv d (.str z)).map V.str))) := same_new nq
        have nl := nice_lot nok (List.filter_sublist (l := ns) (p := fun z => ds.any fun d => PyData.eqv d (.str z)))
        refine ⟨.tuple ds, .tuple (strsD _), .tup (sqT_same (s2.trans s3) hs) (DpAll.same (s2.trans s3) ha), .tup (SqT.of upd_same) (dp_strs _), shd, nl.shaped (by decide), k _ _ (s2.trans s3) ?_⟩
        exact lot_iff nok.nd ds
end
end K6
set_option Elab.async false
set_option linter.all false
set_option maxRecDepth 100000
set_option maxHeartbeats 1500000
set_option pp.maxSteps 1200
set_option pp.deepTerms false
namespace K6
open PySem PySem.Spec PyProof.Rows L2 Lk
theorem dp_strs_inv {K : PySem.W.Frag} {H : Hp} : ∀ {xs : List V} {zs : List Str}, DpAll K H xs (strsD zs) → xs = zs.map V.str
  | _, [], h => by
    cases h
    rfl
  | _, z :: zs, h => by
    cases h with
    | cons h1 t =>
      cases h1
      rw [dp_strs_inv t]
      rfl
theorem strsD_inj {a b : List Str} (h : strsD a = strsD b) : a = b := by
  unfold strsD at h
  exact (List.map_inj_right (fun x y e => PyData.str.inj e)).mp h
/-- what stands open, told by data -/
def OpenP (L : Lore) (ys : List Str) (n : Nat) (d1 d2 d3 : PyData) : Prop := ∃ (v u : Vec) (zs : List Str), d1 = .str (stv v) ∧ d2 = .str (stv u) ∧ d3 = .tuple (strsD zs) ∧ v.length = L.parts.length ∧ u.length = L.parts.length ∧ v ≠ u ∧ zs.Sublist (L.kps.map (·.1)) ∧
  (zs.all fun y => decide (y ∈ ys)) = true ∧ zs.length ≤ 2 * n ∧ ∀ k ∈ L.kps, k.1 ∈ lessL ys zs → ansV L k v = ansV L k u
/-- what overruled may tell -/
def ShowP (L : Lore) (ys : List Str) (n : Nat) (d : PyData) : Prop := (d = .tuple (strsD ["sure"]) ∧ sureL L ys n = true) ∨ ∃ d1 d2 d3, d = .tuple [.str "open", d1, d2, d3] ∧ OpenP L ys n d1 d2 d3
section
variable {P : Program} {w : World} {K : PySem.W.Frag} {mg : Str → Option Value} {base : Heap} {f : Addr} {fd : FuncData}
/-! ### any value: is_open -/
def spIsOpenV (K : PySem.W.Frag) (C CS : Addr) : Sp := fun vs H Q _ => ∃ (x t : Addr) (L : Lore) (ys : List Str) (v1 v2 v3 : V) (d1 d2 d3 : PyData) (n : Nat), vs = [.ref x, .ref t, .int (n : Int), v1, v2, v3] ∧ ShAt H C CS x L ∧ LoreOk L ∧ LotE H t ys ∧ ys.Sublist (L.kps.map (·.1)) ∧ n ≤ 3 ∧
  VD K H v1 d1 ∧ VD K H v2 d2 ∧ VD K H v3 d3 ∧ ∀ (b : Bool) (H' : Hp), Same H H' → (b = true ↔ OpenP L ys n d1 d2 d3) → Q (.bl b) H'
theorem ok_isOpenV {C CS fS f1 f2 f3 f4 f5 : Addr} {fd1 fd2 fd3 fd4 fd5 : FuncData} (F : Fun K "is_open" "is_open" sIsOpen f fd) (T : Bl mg) (SC : ShC K CS fS)
    (G1 : FnOk P w K mg base CX0 2 f1 fd1 ["shelf", "value"] (spIsRecordV K C CS)) (a1 : At K mg "is_record" f1 fd1 ["shelf", "value"])
    (G2 : FnOk P w K mg base CX0 1 f2 fd2 ["circle", "value"] (spIsLotV K C)) (a2 : At K mg "is_lot" f2 fd2 ["circle", "value"])
    (G3 : FnOk P w K mg base CX0 1 f3 fd3 ["lot", "other"] (spWithin K)) (a3 : At K mg "is_within" f3 fd3 ["lot", "other"])
    (G4 : FnOk P w K mg base CX0 1 f4 fd4 ["lot", "other"] (spPLess K)) (a4 : At K mg "less" f4 fd4 ["lot", "other"])
    (G5 : FnOk P w K mg base CX0 4 f5 fd5 ["shelf", "keeper", "record"] (spAnswer C CS)) (a5 : At K mg "answer" f5 fd5 ["shelf", "keeper", "record"]) :
    FnOk P w K mg base CX0 5 f fd ["shelf", "lot", "bound", "record", "other", "doubted"] (spIsOpenV K C CS) := by
  refine F.ok scIsOpen (fun vs H Q E h => ?_) (fun cdv A outer s H vs Q E hr h => ?_)
  · obtain ⟨x, t, L, ys, v1, v2, v3, d1, d2, d3, n, rfl, _⟩ := h
    rfl
  · obtain ⟨x, t, L, ys, v1, v2, v3, d1, d2, d3, n, rfl, sh, ok, et, ysub, n3, h1, h2, h3, k⟩ := h
    have nd := scIsOpen.nd
    have hr1 : Room 1 _ := hr.mono (by decide)
    have hr2 : Room 2 _ := hr.mono (by decide)
    refine ⟨_, pss_cons (ps_if (PW.pt (pw_or (pt_not (pt_val (pe_call G1 hr2 (by rfl) a1.m a1.kp a1.b .nil pass0 (pa_cons (pv 0) (pa_cons (pv 3) pa_nil))))) (pw_or (pt_not (pt_val (pe_call G1 hr2 (by rfl) a1.m a1.kp a1.b .nil pass0 (pa_cons (pv 0) (pa_cons (pv 4) pa_nil))))) (pw_or1 (pt_cmpR op_eq (pv 3) (pv 4) (nomark _)))))) (pss_one (ps_ret pe_bl)) pss_nil)
      (pss_cons (ps_if (PW.pt (pw_or (pt_not (pt_val (pe_call G2 hr1 (by rfl) a2.m a2.kp a2.b .nil pass0 (pa_cons (pe_fld (pv 0) rfl) (pa_cons (pv 5) pa_nil))))) (pw_or (pt_not (pt_val (pe_call G3 hr1 (by rfl) a3.m a3.kp a3.b .nil pass0 (pa_cons (pv 5) (pa_cons (pv 1) pa_nil))))) (pw_or1 (pt_cmpR op_gt (pe_callB call_len_seq (by rfl) T.len PySem.boot_len (pa_cons (pv 5) pa_nil)) (pe_op op_mul pe_int (pv 2)) (nomark _)))))) (pss_one (ps_ret pe_bl)) pss_nil)
      (pss_cons (ps_set (i := 6) nd rfl (.inl rfl) (pe_call G4 hr1 (by rfl) a4.m a4.kp a4.b .nil pass0 (pa_cons (pv 1) (pa_cons (pv 5) pa_nil))))
      (pss_one (ps_ret (pe_callB (cr_all rfl) (by rfl) T.all boot_all (pa_cons (pe_lc (own := [("keeper", 7)]) (g := gName 7) (tt := tYes) (te := tOp rEq (tCall (spAnswer C CS) [] E0 (tCons (tVar 0) (tCons (tVar 7) (tCons (tVar 3) tNil)))) (tCall (spAnswer C CS) [] E0 (tCons (tVar 0) (tCons (tVar 7) (tCons (tVar 4) tNil))))) rfl nd (pi_tup (pv 6))
          (blkOk_by (N := nmOpen) (sc := defScope sIsOpen) (by decide +kernel)) (fun _ _ _ _ _ => pg_name (i := 7) nd rfl (.inl rfl)) (fun _ _ _ _ _ => pts_nil)
          (fun _ _ _ _ _ => pe_cmpR op_eq (pe_call G5 hr (by rfl) a5.m a5.kp a5.b .nil pass0 (pa_cons (pv 0) (pa_cons (pv 7) (pa_cons (pv 3) pa_nil)))) (pe_call G5 hr (by rfl) a5.m a5.kp a5.b .nil pass0 (pa_cons (pv 0) (pa_cons (pv 7) (pa_cons (pv 4) pa_nil)))) (nomark _))) pa_nil)))))), ?_⟩
    have k6 := ok.k6
    have y6 : ys.length ≤ 6 := Nat.le_trans ysub.length_le (by rw [List.length_map]; exact k6)
    refine ⟨_, rfl, _, rfl, x, L, v1, d1, rfl, sh, ok, h1, fun b1 H1 s1 hb1 => ⟨_, rfl, ?_⟩⟩
    cases b1 with
    | false =>
      refine iteA rfl (k false _ s1 ⟨(fun h => by cases h), fun ⟨v, u, zs, e1, e2, e3, vl, ul, _⟩ => ?_⟩)
      exact absurd (hb1.mpr ⟨v, vl, e1⟩) (by decide)
    | true =>
    obtain ⟨v, vl, rfl⟩ := hb1.mp rfl
    obtain rfl : v1 = .str (stv v) := by
      obtain ⟨z, e1, e2, _⟩ := vd_str h1 rfl
      cases e2
      exact e1
    refine iteB rfl ?_
    refine ⟨_, rfl, _, rfl, x, L, v2, d2, rfl, sh.same s1, ok, h2.same s1, fun b2 H2 s2 hb2 => ⟨_, rfl, ?_⟩⟩
    have s12 := s1.trans s2
    cases b2 with
    | false =>
      refine iteA rfl (k false _ s12 ⟨(fun h => by cases h), fun ⟨v, u, zs, e1, e2, e3, vl, ul, _⟩ => ?_⟩)
      exact absurd (hb2.mpr ⟨u, ul, e2⟩) (by decide)
    | true =>
    obtain ⟨u, ul, rfl⟩ := hb2.mp rfl
    obtain rfl : v2 = .str (stv u) := by
      obtain ⟨z, e1, e2, _⟩ := vd_str h2 rfl
      cases e2
      exact e1
    refine iteB rfl ⟨_, rfl, _, rfl, rfl, _, rfl, ?_⟩
    rw [strDec]
    by_cases ne : v = u
    · refine iteA (decide_eq_true ne) (k false _ s12 ⟨(fun h => by cases h), fun ⟨v', u', zs, e1, e2, e3, vl, ul, ne', _⟩ => ?_⟩)
      have := stv_inj (PyData.str.inj e1)
      have := stv_inj (PyData.str.inj e2)
      subst_vars
      exact absurd rfl ne'
    refine iteB (decide_eq_false ne) ?_
    have sh2 := sh.same s12
    obtain ⟨dx, fs, hx, sf, _⟩ := id sh2
    obtain ⟨c, lc, ca⟩ := sf.circle
    refine ⟨_, rfl, x, CS, dx, fs, .ref c, rfl, hx, SC.cls, SC.circle, lc, _, rfl, c, _, v3, d3, rfl, ca, nmOk ok, h3.same s12, fun b3 H3 s3 hb3 => ⟨_, rfl, ?_⟩⟩
    have s13 := s12.trans s3
    cases b3 with
    | false =>
      refine iteA rfl (k false _ s13 ⟨(fun h => by cases h), fun ⟨_, _, zs, _, _, e3, _, _, _, hz, _⟩ => ?_⟩)
      exact absurd (hb3.mpr ⟨zs, e3, hz⟩) (by decide)
    | true =>
    obtain ⟨row, rfl, rsub⟩ := hb3.mp rfl
    obtain ⟨d, xs, ds, rfl, e3, hd, ha, _⟩ := vd_tup h3 rfl
    cases e3
    obtain rfl := dp_strs_inv ha
    have r6 : row.length ≤ 6 := Nat.le_trans rsub.length_le (by rw [List.length_map]; exact k6)
    refine iteB rfl ⟨_, rfl, _, rfl, d, t, row, ys, rfl, .inr (sqT_same s13 hd), .inr (et.same s13).sq, by omega, fun H4 s4 => ⟨_, rfl, ?_⟩⟩
    have s14 := s13.trans s4
    by_cases hin : (row.all fun y => decide (y ∈ ys)) = true
    case neg =>
      refine iteA (by rw [Bool.not_eq_true] at hin; rw [hin]; rfl) (k false _ s14 ⟨(fun h => by cases h), fun ⟨_, _, zs, _, _, e3, _, _, _, hz, hw, _⟩ => ?_⟩)
      rw [strsD_inj (PyData.tuple.inj e3)] at hin
      exact absurd hw hin
    rw [hin]
    refine iteB rfl ⟨_, rfl, d, _, rfl, .inr (sqT_same s14 hd), _, rfl, _, _, rfl, rfl, .inl ⟨by decide, by decide⟩, _, _, rfl, rfl, _, rfl, ?_⟩
    rw [List.length_map]
    by_cases rl : row.length ≤ 2 * n
    case neg =>
      refine iteA (decide_eq_true (by omega)) (k false _ s14 ⟨(fun h => by cases h), fun ⟨_, _, zs, _, _, e3, _, _, _, hz, hw, hl, _⟩ => ?_⟩)
      rw [strsD_inj (PyData.tuple.inj e3)] at rl
      exact absurd hl rl
    refine iteB (decide_eq_false (by omega)) ?_
    refine ⟨_, rfl, _, rfl, t, d, ys, row, rfl, .inr (et.same s14).sq, .inr (sqT_same s14 hd), by omega, fun p H5 s5 np ep => ?_⟩
    have ep : H5 p = some (.tup ((lessL ys row).map V.str)) := ep
    have s15 := s14.trans s5
    have sh5 := sh.same s15
    have ll : (lessL ys row).length ≤ 6 := Nat.le_trans (List.length_filter_le _ _) y6
    obtain ⟨q, hq⟩ : ∃ q : Str → Bool, ∀ k0 ∈ L.kps, q k0.1 = decide (ansV L k0 v = ansV L k0 u) := by
      refine ⟨fun y => L.kps.any fun k0 => decide (k0.1 = y) && decide (ansV L k0 v = ansV L k0 u), fun k0 hk0 => ?_⟩
      rw [Bool.eq_iff_iff, List.any_eq_true, decide_eq_true_iff]
      constructor
      · rintro ⟨k1, hk1, h⟩
        obtain ⟨h1, h2⟩ := Bool.and_eq_true_iff.mp h
        have := kp_one ok hk1 hk0 (of_decide_eq_true h1)
        subst this
        exact of_decide_eq_true h2
      · intro h
        exact ⟨k0, hk0, by rw [decide_eq_true h, decide_eq_true (rfl : k0.1 = k0.1)]; rfl⟩
    refine ⟨_, rfl, p, rfl, ⟨_, SqT.of ep⟩, all_over (walk_tup (a := p) (xs := (lessL ys row).map V.str)) (lessL ys row) V.str q rfl (by omega) (fun H s => sqT_same s (SqT.of ep)) ?_ ?_⟩
    · rintro i b H6 R hb s6 kk
      have bm := List.mem_of_getElem? hb
      obtain ⟨kq, hkq, rfl⟩ := List.mem_map.mp (ysub.subset (List.mem_filter.mp bm).1)
      obtain ⟨j, hj⟩ := List.mem_iff_getElem?.mp hkq
      have sh6 := sh5.same s6
      refine ⟨rfl, _, rfl, _, rfl, _, rfl, x, L, j, kq, stv v, rfl, sh6, ok, hj, recOk_stv vl, fun H7 s7 => ?_⟩
      refine ⟨_, rfl, _, rfl, _, rfl, x, L, j, kq, stv u, rfl, sh6.same s7, ok, hj, recOk_stv ul, fun H8 s8 => ⟨rfl, ?_⟩⟩
      rw [answer_stv vl, answer_stv ul, strDec, ← hq kq hkq]
      exact kk _ (s7.trans s8)
    · intro H6 s6
      refine k _ _ (s15.trans s6) ?_
      rw [List.all_eq_true]
      constructor
      · intro h
        refine ⟨v, u, row, rfl, rfl, rfl, vl, ul, ne, rsub, hin, rl, fun k0 hk0 hl => ?_⟩
        have := h _ hl
        rw [hq k0 hk0] at this
        exact of_decide_eq_true this
      · rintro ⟨v', u', zs, e1, e2, e3, _, _, _, _, _, _, h⟩ y hy
        have := stv_inj (PyData.str.inj e1)
        have := stv_inj (PyData.str.inj e2)
        have := strsD_inj (PyData.tuple.inj e3)
        subst_vars
        obtain ⟨kq, hkq, rfl⟩ := List.mem_map.mp (ysub.subset (List.mem_filter.mp hy).1)
        rw [hq kq hkq]
        exact decide_eq_true (h kq hkq hy)
/-! ### any value: shows_overruled -/
def spShowsV (K : PySem.W.Frag) (C CS : Addr) : Sp := fun vs H Q _ => ∃ (x t : Addr) (L : Lore) (ys : List Str) (v : V) (d : PyData) (n : Nat), vs = [.ref x, .ref t, .int (n : Int), v] ∧ ShAt H C CS x L ∧ LoreOk L ∧ LotE H t ys ∧ ys.Sublist (L.kps.map (·.1)) ∧ n ≤ 3 ∧ VD K H v d ∧
  ∀ (b : Bool) (H' : Hp), Same H H' → (b = true ↔ ShowP L ys n d) → Q (.bl b) H'
theorem ok_showsV {C CS fS f1 f2 f3 f4 f5 : Addr} {fd1 fd2 fd3 fd4 fd5 : FuncData} (F : Fun K "shows_overruled" "shows_overruled" sShows f fd) (SC : ShC K CS fS)
    (G1 : FnOk P w K mg base CX0 2 f1 fd1 ["circle", "value"] (spRefLot C)) (a1 : At K mg "refuse_lot" f1 fd1 ["circle", "value"])
    (G2 : FnOk P w K mg base CX0 3 f2 fd2 ["value"] spRefBound) (a2 : At K mg "refuse_bound" f2 fd2 ["value"])
    (G3 : FnOk P w K mg base CX0 2 f3 fd3 ["value", "word", "many"] (spIsToldV K)) (a3 : At K mg "is_told" f3 fd3 ["value", "word", "many"])
    (G4 : FnOk P w K mg base CX0 5 f4 fd4 ["shelf", "lot", "bound", "record", "other", "doubted"] (spIsOpenV K C CS)) (a4 : At K mg "is_open" f4 fd4 ["shelf", "lot", "bound", "record", "other", "doubted"])
    (G5 : FnOk P w K mg base CX0 6 f5 fd5 ["shelf", "lot", "bound"] (spIsSure C CS)) (a5 : At K mg "is_sure" f5 fd5 ["shelf", "lot", "bound"]) :
    FnOk P w K mg base CX0 7 f fd ["shelf", "lot", "bound", "value"] (spShowsV K C CS) := by
  refine F.ok scShows (fun vs H Q E h => ?_) (fun cdv A outer s H vs Q E hr h => ?_)
  · obtain ⟨x, t, L, ys, v, d, n, rfl, _⟩ := h
    rfl
  · obtain ⟨x, t, L, ys, v, d, n, rfl, sh, ok, et, ysub, n3, hv, k⟩ := h
    have nd := scShows.nd
    have hu := hu_of hr
    have hu64 := room64 hr
    have hr2 : Room 2 _ := hr.mono (by decide)
    have hr3 : Room 3 _ := hr.mono (by decide)
    have hr5 : Room 5 _ := hr.mono (by decide)
    refine ⟨_, pss_cons (ps_expr (pe_call G1 hr2 (by rfl) a1.m a1.kp a1.b .nil pass0 (pa_cons (pe_fld (pv 0) rfl) (pa_cons (pv 1) pa_nil)))) (pss_cons (ps_expr (pe_call G2 hr3 (by rfl) a2.m a2.kp a2.b .nil pass0 (pa_cons (pv 2) pa_nil)))
      (pss_cons (ps_if (pt_val (pe_call G3 hr2 (by rfl) a3.m a3.kp a3.b .nil pass0 (pa_cons (pv 3) (pa_cons pe_str (pa_cons pe_int pa_nil)))))
          (pss_one (ps_ret (pe_call G4 hr5 (by rfl) a4.m a4.kp a4.b .nil pass0 (pa_cons (pv 0) (pa_cons (pv 1) (pa_cons (pv 2) (pa_cons (pe_ix ix_tup (pv 3) pe_int (fun _ _ => rfl)) (pa_cons (pe_ix ix_tup (pv 3) pe_int (fun _ _ => rfl)) (pa_cons (pe_ix ix_tup (pv 3) pe_int (fun _ _ => rfl)) pa_nil))))))))) pss_nil)
      (pss_one (ps_ret (pe_and (pe_cmpR (OpR.or (op_eqD hu64) (op_eqDT (Nat.lt_of_succ_lt hu))) (pv 3) (pe_tup (pa_cons pe_str pa_nil)) (nomark _)) (pe_one (pe_call G5 hr (by rfl) a5.m a5.kp a5.b .nil pass0 (pa_cons (pv 0) (pa_cons (pv 1) (pa_cons (pv 2) pa_nil)))))))))), ?_⟩
    obtain ⟨dx, fs, hx, sf, _⟩ := id sh
    obtain ⟨c, lc, ca⟩ := sf.circle
    refine ⟨_, rfl, x, CS, dx, fs, .ref c, rfl, hx, SC.cls, SC.circle, lc, _, rfl, c, t, _, ys, rfl, ca, et, ysub, nmOk ok, fun H1 s1 => ?_⟩
    refine ⟨_, rfl, n, rfl, n3, ?_⟩
    have hv1 := hv.same s1
    refine ⟨_, rfl, v, d, "open", 4, rfl, hv1, by decide +kernel, by decide, fun b hb => ⟨_, rfl, ?_⟩⟩
    cases b with
    | true =>
      obtain ⟨ds, rfl, hl⟩ := hb.mp rfl
      obtain ⟨q, xs, ds', rfl, e, hs, ha, nn⟩ := vd_tup hv1 rfl
      cases e
      match ds, hl with
      | [d1, d2, d3], _ =>
        obtain ⟨v1, g1, h1⟩ := DpAll.get ha (i := 1) rfl
        obtain ⟨v2, g2, h2⟩ := DpAll.get ha (i := 2) rfl
        obtain ⟨v3, g3, h3⟩ := DpAll.get ha (i := 3) rfl
        have ni := nice_item nn
        refine iteA rfl ⟨_, rfl, _, rfl, _, rfl, _, rfl, q, _, _, _, rfl, rfl, hs, atI_nat (j := 1) g1, _, rfl, q, _, _, _, rfl, rfl, hs, atI_nat (j := 2) g2, _, rfl, q, _, _, _, rfl, rfl, hs, atI_nat (j := 3) g3, ?_⟩
        refine ⟨x, t, L, ys, v1, v2, v3, d1, d2, d3, n, rfl, sh.same s1, ok, et.same s1, ysub, n3, .inl ⟨h1, ni _ (by simp)⟩, .inl ⟨h2, ni _ (by simp)⟩, .inl ⟨h3, ni _ (by simp)⟩, fun b H2 s2 hb2 => k b _ (s1.trans s2) ?_⟩
        rw [hb2]
        constructor
        · exact fun h => .inr ⟨_, _, _, rfl, h⟩
        · rintro (⟨h, _⟩ | ⟨e1, e2, e3, h, o⟩)
          · cases h
          · cases h
            exact o
      | [], hl => simp at hl
      | [_], hl => simp at hl
      | [_, _], hl => simp at hl
      | _ :: _ :: _ :: _ :: _, hl => simp at hl; omega
    | false =>
      have no : ¬ ∃ d1 d2 d3, d = .tuple [.str "open", d1, d2, d3] := fun ⟨d1, d2, d3, h⟩ => absurd (hb.mpr ⟨[d1, d2, d3], h, rfl⟩) (by decide)
      refine iteB rfl ⟨_, rfl, few_ok rfl, fun e ne => ?_⟩
      have s2 := same_new (o := HO.tup [.str "sure"]) ne
      have s12 := s1.trans s2
      have nS : Nice (1 * (8 + 1)) 1 (.tuple (strsD ["sure"])) := nice_strs (fun z hz => by
        rw [List.mem_singleton.mp hz]
        decide +kernel) (by decide)
      rcases hv1 with ⟨hv1, nv⟩ | ⟨a, ks, rfl, ea, rfl⟩
      · refine .inl ⟨d, .tuple (strsD ["sure"]), Dp.same s2 hv1, .tup (SqT.of upd_same) (dp_strs ["sure"]), nv.shaped (by decide), nS.shaped (by decide), ?_⟩
        refine ⟨_, rfl, ?_⟩
        by_cases e : PyData.eqv d (.tuple (strsD ["sure"])) = true
        · have ed := (eqvD_strs _ _).mp e
          refine iteA e ?_
          refine ⟨_, rfl, _, rfl, _, rfl, x, t, L, ys, n, rfl, sh.same s12, ok, et.same s12, ysub, n3, fun H3 s3 => k _ _ (s12.trans s3) ?_⟩
          constructor
          · exact fun h => .inl ⟨ed, h⟩
          · rintro (⟨_, h⟩ | ⟨d1, d2, d3, h, _⟩)
            · exact h
            · exact absurd ⟨d1, d2, d3, h⟩ no
        · refine iteB (by simpa using e) ?_
          rw [Bool.not_eq_true] at e
          refine k false _ s12 ⟨(fun h => by cases h), ?_⟩
          rintro (⟨h, _⟩ | ⟨d1, d2, d3, h, _⟩)
          · rw [(eqvD_strs _ _).mpr h] at e
            cases e
          · exact absurd ⟨d1, d2, d3, h⟩ no
      · refine .inr ⟨a, e, ks, _, rfl, rfl, s2 _ _ ea, SqT.of upd_same, _, rfl, iteB rfl ?_⟩
        refine k false _ s12 ⟨(fun h => by cases h), ?_⟩
        rintro (⟨h, _⟩ | ⟨d1, d2, d3, h, _⟩)
        · cases h
        · cases h
end
end K6
set_option Elab.async false
set_option linter.all false
set_option maxRecDepth 100000
set_option maxHeartbeats 1500000
set_option pp.maxSteps 1200
set_option pp.deepTerms false
namespace K6
open PySem PySem.Spec PyProof.Rows L2 Lk
theorem apart_iff {L : Lore} (ok : LoreOk L) {ys zs : List Str} (ysub : ys.Sublist (L.kps.map (·.1))) {v u : Vec} : (∀ k ∈ L.kps, k.1 ∈ lessL ys zs → ansV L k v = ansV L k u) ↔ ∀ z ∈ apartL L ys v u, z ∈ zs := by
  constructor
  · intro h z hz
    obtain ⟨k, hk, rfl⟩ := List.mem_map.mp ((apart_sub L ys v u).subset hz)
    obtain ⟨h1, h2⟩ := (in_apart ok hk).mp hz
    refine Classical.byContradiction fun hn => h1 (h k hk (List.mem_filter.mpr ⟨h2, by simpa using hn⟩))
  · intro h k hk hl
    obtain ⟨h1, h2⟩ := List.mem_filter.mp hl
    refine Classical.byContradiction fun hn => ?_
    have := h k.1 ((in_apart ok hk).mpr ⟨hn, h1⟩)
    simp [this] at h2
theorem dpAll_zip {K : PySem.W.Frag} {H : Hp} : ∀ {xs : List V} {ds : List PyData}, DpAll K H xs ds → ∃ zs : List (V × PyData), zs.map (·.1) = xs ∧ zs.map (·.2) = ds ∧ ∀ z ∈ zs, Dp K H z.1 z.2
  | _, [], h => by
    cases h
    exact ⟨[], rfl, rfl, fun z h => by cases h⟩
  | _, d :: ds, h => by
    cases h with
    | @cons v vs _ _ h1 t =>
      obtain ⟨zs, e1, e2, e3⟩ := dpAll_zip t
      refine ⟨(v, d) :: zs, by rw [List.map_cons, e1], by rw [List.map_cons, e2], fun z hz => ?_⟩
      rcases List.mem_cons.mp hz with rfl | hz
      · exact h1
      · exact e3 z hz
theorem all_strB : ∀ {ds : List PyData}, (∀ d ∈ ds, isStrB d = true) → ∃ zs, ds = strsD zs
  | [], _ => ⟨[], rfl⟩
  | d :: ds, h => by
    obtain ⟨zs, rfl⟩ := all_strB fun e he => h e (List.mem_cons_of_mem _ he)
    have := h d List.mem_cons_self
    cases d with
    | str z => exact ⟨z :: zs, rfl⟩
    | _ => cases this
section
variable {P : Program} {w : World} {K : PySem.W.Frag} {mg : Str → Option Value} {base : Heap} {f : Addr} {fd : FuncData}
/-! ### any value: _law_is_any_record -/
def spAnyV (K : PySem.W.Frag) : Sp := fun vs H Q _ => ∃ (lo : Addr) (L : Lore) (v : V) (d : PyData), vs = [.ref lo, v] ∧ LoreAt H lo L ∧ LoreOk L ∧ VD K H v d ∧ ∀ (b : Bool) (H' : Hp), Same H H' → (b = true ↔ ∃ r : Vec, r.length = L.parts.length ∧ d = .str (stv r)) → Q (.bl b) H'
theorem ok_anyV {f1 : Addr} {fd1 : FuncData} (F : Fun K "_law_is_any_record" "_law_is_any_record" sAnyRec f fd) (T : Bl mg) (Cc : Cn mg)
    (G1 : FnOk P w K mg base CX0 1 f1 fd1 ["lore"] spRecords) (a1 : At K mg "_law_records" f1 fd1 ["lore"]) :
    FnOk P w K mg base CX0 2 f fd ["lore", "value"] (spAnyV K) := by
  refine F.ok scAny (fun vs H Q E h => ?_) (fun cdv A outer s H vs Q E hr h => ?_)
  · obtain ⟨lo, L, v, d, rfl, _⟩ := h
    rfl
  · obtain ⟨lo, L, v, d, rfl, la, ok, hv, k⟩ := h
    refine ⟨_, pss_one (ps_ret (pe_and (pe_callB call_isi (by rfl) T.isin boot_isinstance (pa_cons (pv 1) (pa_cons (pe_bltn (v := .ty "str") (by rfl) Cc.str rfl rfl) pa_nil)))
      (pe_one (pe_cmpR op_in_seq (pv 1) (pe_call G1 hr (by rfl) a1.m a1.kp a1.b .nil pass0 (pa_cons (pv 0) pa_nil)) rfl)))), ?_⟩
    obtain ⟨t, ty, _, kt⟩ := vd_isi hv
    refine ⟨_, rfl, _, _, t, _, isStrB d, rfl, .ty _, ty, kt, _, rfl, ?_⟩
    cases e : isStrB d with
    | false => exact iteB rfl (k false _ (Same.refl _) ⟨(fun h => by cases h), fun ⟨z, _, h⟩ => by rw [h] at e; cases e⟩)
    | true =>
      obtain ⟨z, rfl, rfl, zl, _⟩ := vd_str hv e
      refine iteT ⟨_, rfl, _, rfl, lo, L, rfl, la, ok.p4, fun p H1 s1 np ep => ⟨p, _, rfl, .inl (SqL.of ep), rfl, flat_strs _, k _ _ s1 ?_⟩⟩
      rw [inV_str, if_neg (by decide), decide_eq_true_iff]
      constructor
      · intro h
        obtain ⟨r, hr, e⟩ := List.mem_map.mp h
        exact ⟨r, mem_vL.mp hr, by rw [e]⟩
      · rintro ⟨r, hr, e⟩
        cases e
        exact List.mem_map.mpr ⟨r, mem_vL.mpr hr, rfl⟩
/-! ### any value: _law_is_lot -/
def spLIsLotV (K : PySem.W.Frag) : Sp := fun vs H Q _ => ∃ (n : Addr) (zs : List Str) (v : V) (d : PyData), vs = [.ref n, v] ∧ SqT K H n (zs.map V.str) ∧ NmOk zs ∧ VD K H v d ∧ ∀ (b : Bool) (H' : Hp), Same H H' → (b = true ↔ ∃ rs, d = .tuple (strsD rs) ∧ rs.Sublist zs) → Q (.bl b) H'
theorem ok_lIsLotV {f1 : Addr} {fd1 : FuncData} (F : Fun K "_law_is_lot" "_law_is_lot" sLIsLot f fd) (T : Bl mg) (Cc : Cn mg)
    (G1 : FnOk P w K mg base CX0 1 f1 fd1 ["names", "some"] (spLotOf K)) (a1 : At K mg "_law_lot_of" f1 fd1 ["names", "some"]) :
    FnOk P w K mg base CX0 2 f fd ["names", "value"] (spLIsLotV K) := by
  refine F.ok scLIsLot (fun vs H Q E h => ?_) (fun cdv A outer s H vs Q E hr h => ?_)
  · obtain ⟨n, zs, v, d, rfl, _⟩ := h
    rfl
  · obtain ⟨n, zs, v, d, rfl, hn, nk, hv, k⟩ := h
    have nd := scLIsLot.nd
    refine ⟨_, pss_cons (ps_if (PW.pt (pw_or (pt_not (pt_val (pe_callB call_isi (by rfl) T.isin boot_isinstance (pa_cons (pv 1) (pa_cons (pe_bltn (v := .ty "tuple") (by rfl) Cc.tuple rfl rfl) pa_nil)))))
          (pw_or1 (pt_not (pt_val (pe_callB (cr_all rfl) (by rfl) T.all boot_all (pa_cons (pe_lc (own := [("name", 2)]) (g := gName 2) (tt := tYes) (te := tCB (rIsi K) (tCons (tVar 2) (tCons (tC (.ty "str")) tNil))) rfl nd (pi_tup (pv 1))
            (blkOk_by (N := ["names", "value", "name"]) (sc := defScope sLIsLot) (by decide +kernel)) (fun _ _ _ _ _ => pg_name (i := 2) nd rfl (.inl rfl)) (fun _ _ _ _ _ => pts_nil)
            (fun _ _ _ _ _ => pe_callB call_isi (by rfl) T.isin boot_isinstance (pa_cons (pv 2) (pa_cons (pe_bltn (v := .ty "str") (by rfl) Cc.str rfl rfl) pa_nil)))) pa_nil))))))) (pss_one (ps_ret pe_bl)) pss_nil)
      (pss_one (ps_ret (pe_cmpR (op_eqD (room64 hr)) (pv 1) (pe_call G1 hr (by rfl) a1.m a1.kp a1.b .nil pass0 (pa_cons (pv 0) (pa_cons (pv 1) pa_nil))) (nomark _)))), ?_⟩
    obtain ⟨t, ty, kt, _⟩ := vd_isi hv
    refine ⟨_, rfl, _, _, t, _, isTupB d, rfl, .ty _, ty, kt, _, rfl, ?_⟩
    cases e : isTupB d with
    | false => exact iteA rfl (k false _ (Same.refl _) ⟨(fun h => by cases h), fun ⟨ds, h, _⟩ => by rw [h] at e; cases e⟩)
    | true =>
    obtain ⟨a, xs, ds, rfl, rfl, hs, ha, nn⟩ := vd_tup hv e
    have shd := nn.shaped (by decide)
    have dl : ds.length ≤ 100000 := nice_tlen nn
    obtain ⟨ps, e1, e2, e3⟩ := dpAll_zip ha
    have pl : ps.length = ds.length := by rw [← e2, List.length_map]
    refine iteB rfl ⟨_, rfl, a, rfl, ⟨_, hs⟩, all_over (walk_tup (a := a) (xs := xs)) ps (·.1) (fun z => isStrB z.2) e1.symm (by omega) (fun H s => sqT_same s hs) ?_ ?_⟩
    · rintro i ⟨v0, d0⟩ H6 R hb s6 kk
      have hm := List.mem_of_getElem? hb
      have hd := e3 _ hm
      have n0 := nice_item nn d0 (by rw [← e2]; exact List.mem_map.mpr ⟨_, hm, rfl⟩)
      obtain ⟨t0, ty0, _, kt0⟩ := vd_isi (K := K) (H := H6) (.inl ⟨Dp.same s6 hd, n0⟩)
      exact ⟨rfl, _, rfl, _, _, t0, _, isStrB d0, rfl, .ty _, ty0, kt0, kk _ (Same.refl _)⟩
    · intro H6 s6
      refine ⟨_, rfl, ?_⟩
      by_cases ea : (ps.all fun z => isStrB z.2) = true
      case neg =>
        rw [Bool.not_eq_true] at ea
        rw [ea]
        refine iteA rfl (k false _ s6 ⟨(fun h => by cases h), fun ⟨rs, h, _⟩ => ?_⟩)
        have h := PyData.tuple.inj h
        have : (ps.all fun z => isStrB z.2) = true := List.all_eq_true.mpr fun z hz => by
          have hz2 : z.2 ∈ ds := by rw [← e2]; exact List.mem_map.mpr ⟨z, hz, rfl⟩
          rw [h] at hz2
          obtain ⟨y, _, e⟩ := List.mem_map.mp hz2
          rw [← e]
          rfl
        rw [this] at ea
        cases ea
      rw [ea]
      obtain ⟨rows, rfl⟩ : ∃ rows, ds = strsD rows := all_strB fun d hd => by
        rw [← e2] at hd
        obtain ⟨z, hz, rfl⟩ := List.mem_map.mp hd
        exact List.all_eq_true.mp ea z hz
      obtain rfl := dp_strs_inv ha
      have k6 := nk.k6
      refine iteB rfl ⟨_, rfl, _, rfl, _, rfl, n, a, zs, rows, rfl, .inr (sqT_same s6 hn), .inr (sqT_same s6 hs), by omega, fun p H7 s7 np ep => ?_⟩
      have ep : H7 p = some (.tup ((zs.filter fun p => decide (p ∈ rows)).map V.str)) := ep
      have s67 := s6.trans s7
      have nl := nice_lot nk (List.filter_sublist (l := zs) (p := fun p => decide (p ∈ rows)))
      refine ⟨.tuple (strsD rows), .tuple (strsD _), .tup (sqT_same s67 hs) (DpAll.same s67 ha), .tup (SqT.of ep) (dp_strs _), shd, nl.shaped (by decide), k _ _ s67 ?_⟩
      have ef : (zs.filter fun p => decide (p ∈ rows)) = zs.filter fun z => (strsD rows).any fun d => PyData.eqv d (.str z) := List.filter_congr fun z _ => (any_strs rows z).symm
      rw [ef]
      exact lot_iff nk.nd _
/-! ### any value: _law_is_open_told -/
def spOpenTV (K : PySem.W.Frag) : Sp := fun vs H Q _ => ∃ (lo tb t q : Addr) (L : Lore) (ys : List Str) (v1 v2 v3 : V) (d1 d2 d3 : PyData) (n : Nat), vs = [.ref lo, .ref tb, .ref t, .int (n : Int), .ref q] ∧ LoreAt H lo L ∧ LoreOk L ∧ TabAt H tb L ∧ SqT K H t (ys.map V.str) ∧ ys.Sublist (L.kps.map (·.1)) ∧
  H q = some (.tup [v1, v2, v3]) ∧ VD K H v1 d1 ∧ VD K H v2 d2 ∧ VD K H v3 d3 ∧ n ≤ 3 ∧ ∀ (b : Bool) (H' : Hp), Same H H' → (b = true ↔ OpenP L ys n d1 d2 d3) → Q (.bl b) H'
theorem ok_openTV {f1 f2 f3 f4 : Addr} {fd1 fd2 fd3 fd4 : FuncData} (F : Fun K "_law_is_open_told" "_law_is_open_told" sOpenT f fd) (T : Bl mg)
    (G1 : FnOk P w K mg base CX0 2 f1 fd1 ["lore", "value"] (spAnyV K)) (a1 : At K mg "_law_is_any_record" f1 fd1 ["lore", "value"])
    (G2 : FnOk P w K mg base CX0 2 f2 fd2 ["names", "value"] (spLIsLotV K)) (a2 : At K mg "_law_is_lot" f2 fd2 ["names", "value"])
    (G3 : FnOk P w K mg base CX0 1 f3 fd3 ["one", "other"] (spInside K)) (a3 : At K mg "_law_is_inside" f3 fd3 ["one", "other"])
    (G4 : FnOk P w K mg base CX0 1 f4 fd4 ["lore", "table", "one", "other", "lot"] (spApart K)) (a4 : At K mg "_law_apart" f4 fd4 ["lore", "table", "one", "other", "lot"]) :
    FnOk P w K mg base CX0 3 f fd ["lore", "table", "lot", "bound", "value"] (spOpenTV K) := by
  refine F.ok scOpenT (fun vs H Q E h => ?_) (fun cdv A outer s H vs Q E hr h => ?_)
  · obtain ⟨lo, tb, t, q, L, ys, v1, v2, v3, d1, d2, d3, n, rfl, _⟩ := h
    rfl
  · obtain ⟨lo, tb, t, q, L, ys, v1, v2, v3, d1, d2, d3, n, rfl, la, ok, ta, ht, ysub, eq, h1, h2, h3, n3, k⟩ := h
    have nd := scOpenT.nd
    have hu := hu_of hr
    have hr1 : Room 1 _ := hr.mono (by decide)
    refine ⟨_, pss_cons (ps_asg (pv 4) (pg_tup rfl (pgs_cons (pg_name (i := 5) nd rfl (.inl rfl)) (pgs_cons (pg_name (i := 6) nd rfl (.inl rfl)) (pgs_cons (pg_name (i := 7) nd rfl (.inl rfl)) pgs_nil)))))
      (pss_cons (ps_if (PW.pt (pw_or (pt_not (pt_val (pe_call G1 hr (by rfl) a1.m a1.kp a1.b .nil pass0 (pa_cons (pv 0) (pa_cons (pv 5) pa_nil))))) (pw_or (pt_not (pt_val (pe_call G1 hr (by rfl) a1.m a1.kp a1.b .nil pass0 (pa_cons (pv 0) (pa_cons (pv 6) pa_nil))))) (pw_or1 (pt_cmpR op_eq (pv 5) (pv 6) (nomark _)))))) (pss_one (ps_ret pe_bl)) pss_nil)
      (pss_cons (ps_if (PW.pt (pw_or (pt_not (pt_val (pe_call G2 hr (by rfl) a2.m a2.kp a2.b .nil pass0 (pa_cons (pe_dget hu (pv 0) pe_str (fun _ _ => rfl)) (pa_cons (pv 7) pa_nil))))) (pw_or (pt_not (pt_val (pe_call G3 hr1 (by rfl) a3.m a3.kp a3.b .nil pass0 (pa_cons (pv 7) (pa_cons (pv 2) pa_nil))))) (pw_or1 (pt_cmpR op_gt (pe_callB call_len_seq (by rfl) T.len PySem.boot_len (pa_cons (pv 7) pa_nil)) (pe_op op_mul pe_int (pv 3)) (nomark _)))))) (pss_one (ps_ret pe_bl)) pss_nil)
      (pss_one (ps_ret (pe_call G3 hr1 (by rfl) a3.m a3.kp a3.b .nil pass0 (pa_cons (pe_call G4 hr1 (by rfl) a4.m a4.kp a4.b .nil pass0 (pa_cons (pv 0) (pa_cons (pv 1) (pa_cons (pv 5) (pa_cons (pv 6) (pa_cons (pv 2) pa_nil)))))) (pa_cons (pv 7) pa_nil))))))), ?_⟩
    have k6 := ok.k6
    refine ⟨_, rfl, q, _, rfl, .inl (.inl eq), rfl, _, _, rfl, _, _, rfl, _, _, rfl, rfl, ?_⟩
    refine ⟨_, rfl, _, rfl, lo, L, v1, d1, rfl, la, ok, h1, fun b1 H1 s1 hb1 => ⟨_, rfl, ?_⟩⟩
    cases b1 with
    | false =>
      refine iteA rfl (k false _ s1 ⟨(fun h => by cases h), fun ⟨v, u, zs, e1, e2, e3, vl, ul, _⟩ => ?_⟩)
      exact absurd (hb1.mpr ⟨v, vl, e1⟩) (by decide)
    | true =>
    obtain ⟨v, vl, rfl⟩ := hb1.mp rfl
    obtain rfl : v1 = .str (stv v) := by
      obtain ⟨z, e1, e2, _⟩ := vd_str h1 rfl
      cases e2
      exact e1
    refine iteB rfl ?_
    refine ⟨_, rfl, _, rfl, lo, L, v2, d2, rfl, la.same s1, ok, h2.same s1, fun b2 H2 s2 hb2 => ⟨_, rfl, ?_⟩⟩
    have s12 := s1.trans s2
    cases b2 with
    | false =>
      refine iteA rfl (k false _ s12 ⟨(fun h => by cases h), fun ⟨v, u, zs, e1, e2, e3, vl, ul, _⟩ => ?_⟩)
      exact absurd (hb2.mpr ⟨u, ul, e2⟩) (by decide)
    | true =>
    obtain ⟨u, ul, rfl⟩ := hb2.mp rfl
    obtain rfl : v2 = .str (stv u) := by
      obtain ⟨z, e1, e2, _⟩ := vd_str h2 rfl
      cases e2
      exact e1
    refine iteB rfl ⟨_, rfl, _, rfl, rfl, _, rfl, ?_⟩
    rw [strDec]
    by_cases ne : v = u
    · refine iteA (decide_eq_true ne) (k false _ s12 ⟨(fun h => by cases h), fun ⟨v', u', zs, e1, e2, e3, vl, ul, ne', _⟩ => ?_⟩)
      have := stv_inj (PyData.str.inj e1)
      have := stv_inj (PyData.str.inj e2)
      subst_vars
      exact absurd rfl ne'
    refine iteB (decide_eq_false ne) ?_
    have la2 := la.same s12
    obtain ⟨pa, nm, pt, rows, e1, e2, e3, e4, e5⟩ := id la2
    refine ⟨_, rfl, lo, _, rfl, (dget3 e1).2.1, _, rfl, nm, L.kps.map (fun k : KP => k.1), v3, d3, rfl, e3.sq, nmOk ok, h3.same s12, fun b3 H3 s3 hb3 => ⟨_, rfl, ?_⟩⟩
    have s13 := s12.trans s3
    cases b3 with
    | false =>
      refine iteA rfl (k false _ s13 ⟨(fun h => by cases h), fun ⟨_, _, zs, _, _, e3, _, _, _, hz, _⟩ => ?_⟩)
      exact absurd (hb3.mpr ⟨zs, e3, hz⟩) (by decide)
    | true =>
    obtain ⟨row, rfl, rsub⟩ := hb3.mp rfl
    obtain ⟨d, xs, ds, rfl, e3', hd, ha, _⟩ := vd_tup h3 rfl
    cases e3'
    obtain rfl := dp_strs_inv ha
    have r6 : row.length ≤ 6 := Nat.le_trans rsub.length_le (by rw [List.length_map]; exact k6)
    refine iteB rfl ⟨_, rfl, _, rfl, d, t, row, ys, rfl, sqT_same s13 hd, sqT_same s13 ht, by omega, fun H4 s4 => ⟨_, rfl, ?_⟩⟩
    have s14 := s13.trans s4
    by_cases hin : (row.all fun y => decide (y ∈ ys)) = true
    case neg =>
      refine iteA (by rw [Bool.not_eq_true] at hin; rw [hin]; rfl) (k false _ s14 ⟨(fun h => by cases h), fun ⟨_, _, zs, _, _, e3, _, _, _, hz, hw, _⟩ => ?_⟩)
      rw [strsD_inj (PyData.tuple.inj e3)] at hin
      exact absurd hw hin
    rw [hin]
    refine iteB rfl ⟨_, rfl, d, _, rfl, .inr (sqT_same s14 hd), _, rfl, _, _, rfl, rfl, .inl ⟨by decide, by decide⟩, _, _, rfl, rfl, _, rfl, ?_⟩
    rw [List.length_map]
    by_cases rl : row.length ≤ 2 * n
    case neg =>
      refine iteA (decide_eq_true (by omega)) (k false _ s14 ⟨(fun h => by cases h), fun ⟨_, _, zs, _, _, e3, _, _, _, hz, hw, hl, _⟩ => ?_⟩)
      rw [strsD_inj (PyData.tuple.inj e3)] at rl
      exact absurd hl rl
    refine iteB (decide_eq_false (by omega)) ?_
    refine ⟨_, rfl, _, rfl, _, rfl, _, rfl, _, rfl, lo, tb, t, L, ys, v, u, rfl, la.same s14, ok, ta.same s14, sqT_same s14 ht, vl, ul, fun p H5 s5 ep => ?_⟩
    have s15 := s14.trans s5
    have al : (apartL L ys v u).length ≤ 6 := Nat.le_trans (apart_sub L ys v u).length_le (by rw [List.length_map]; exact k6)
    refine ⟨_, rfl, p, d, _, row, rfl, SqT.of ep, sqT_same s15 hd, by omega, fun H6 s6 => k _ _ (s15.trans s6) ?_⟩
    rw [List.all_eq_true]
    have ai := apart_iff ok (zs := row) ysub (v := v) (u := u)
    constructor
    · intro h
      exact ⟨v, u, row, rfl, rfl, rfl, vl, ul, ne, rsub, hin, rl, ai.mpr fun z hz => of_decide_eq_true (h z hz)⟩
    · rintro ⟨v', u', zs, e1, e2, e3, _, _, _, _, _, _, h⟩ y hy
      have := stv_inj (PyData.str.inj e1)
      have := stv_inj (PyData.str.inj e2)
      have := strsD_inj (PyData.tuple.inj e3)
      subst_vars
      exact decide_eq_true (ai.mp h y hy)
/-! ### any value: _law_is_overruled -/
def spLOverV (K : PySem.W.Frag) : Sp := fun vs H Q _ => ∃ (lo tb t : Addr) (L : Lore) (ys : List Str) (v : V) (d : PyData) (n : Nat), vs = [.ref lo, .ref tb, .ref t, .int (n : Int), v] ∧ LoreAt H lo L ∧ LoreOk L ∧ TabAt H tb L ∧ SqT K H t (ys.map V.str) ∧ ys.Sublist (L.kps.map (·.1)) ∧ n ≤ 3 ∧ VD K H v d ∧
  ∀ (b : Bool) (H' : Hp), Same H H' → (b = true ↔ ShowP L ys n d) → Q (.bl b) H'
theorem ok_lOverV {f1 f2 : Addr} {fd1 fd2 : FuncData} (F : Fun K "_law_is_overruled" "_law_is_overruled" sLOver f fd) (T : Bl mg) (Cc : Cn mg)
    (G1 : FnOk P w K mg base CX0 2 f1 fd1 ["lore", "table", "lot", "bound"] (spLSure K)) (a1 : At K mg "_law_is_sure" f1 fd1 ["lore", "table", "lot", "bound"])
    (G2 : FnOk P w K mg base CX0 3 f2 fd2 ["lore", "table", "lot", "bound", "value"] (spOpenTV K)) (a2 : At K mg "_law_is_open_told" f2 fd2 ["lore", "table", "lot", "bound", "value"]) :
    FnOk P w K mg base CX0 4 f fd ["lore", "table", "lot", "bound", "value"] (spLOverV K) := by
  refine F.ok scLOver (fun vs H Q E h => ?_) (fun cdv A outer s H vs Q E hr h => ?_)
  · obtain ⟨lo, tb, t, L, ys, v, d, n, rfl, _⟩ := h
    rfl
  · obtain ⟨lo, tb, t, L, ys, v, d, n, rfl, la, ok, ta, ht, ysub, n3, hv, k⟩ := h
    have nd := scLOver.nd
    have hu64 := room64 hr
    have hr2 : Room 2 _ := hr.mono (by decide)
    refine ⟨_, pss_cons (ps_if (PW.pt (pw_or (pt_not (pt_val (pe_callB call_isi (by rfl) T.isin boot_isinstance (pa_cons (pv 4) (pa_cons (pe_bltn (v := .ty "tuple") (by rfl) Cc.tuple rfl rfl) pa_nil))))) (pw_or (pt_cmpR (op_eqD hu64) (pv 4) (pe_tup pa_nil) (nomark _))
            (pw_or1 (pt_not (pt_val (pe_callB call_isi (by rfl) T.isin boot_isinstance (pa_cons (pe_ix ix_tup (pv 4) pe_int (fun _ _ => rfl)) (pa_cons (pe_bltn (v := .ty "str") (by rfl) Cc.str rfl rfl) pa_nil))))))))) (pss_one (ps_ret pe_bl)) pss_nil)
      (pss_cons (ps_if (pt_cmpR op_eq (pe_ix ix_tup (pv 4) pe_int (fun _ _ => rfl)) pe_str (nomark _)) (pss_one (ps_ret (pe_and (pe_cmpR op_eq (pe_callB call_len_seq (by rfl) T.len PySem.boot_len (pa_cons (pv 4) pa_nil)) pe_int (nomark _)) (pe_one (pe_call G1 hr2 (by rfl) a1.m a1.kp a1.b .nil pass0 (pa_cons (pv 0) (pa_cons (pv 1) (pa_cons (pv 2) (pa_cons (pv 3) pa_nil))))))))) pss_nil)
      (pss_one (ps_ret (pe_and (pe_cmpR op_eq (pe_ix ix_tup (pv 4) pe_int (fun _ _ => rfl)) pe_str (nomark _)) (pe_and (pe_cmpR op_eq (pe_callB call_len_seq (by rfl) T.len PySem.boot_len (pa_cons (pv 4) pa_nil)) pe_int (nomark _))
          (pe_one (pe_call G2 hr (by rfl) a2.m a2.kp a2.b .nil pass0 (pa_cons (pv 0) (pa_cons (pv 1) (pa_cons (pv 2) (pa_cons (pv 3) (pa_cons (pe_slice sl_tup (pv 4) (po_some pe_int) po_none) pa_nil)))))))))))), ?_⟩
    obtain ⟨ty0, ty, kt, _⟩ := vd_isi hv
    refine ⟨_, rfl, _, _, ty0, _, isTupB d, rfl, .ty _, ty, kt, _, rfl, ?_⟩
    cases e : isTupB d with
    | false =>
      refine iteA rfl (k false _ (Same.refl _) ⟨(fun h => by cases h), ?_⟩)
      rintro (⟨h, _⟩ | ⟨d1, d2, d3, h, _⟩)
      · rw [h] at e
        cases e
      · rw [h] at e
        cases e
    | true =>
    obtain ⟨q, xs, ds, rfl, rfl, hs, ha, nn⟩ := vd_tup hv e
    refine iteB rfl ⟨_, rfl, few_ok rfl, fun e0 ne0 => ?_⟩
    have s1 := same_new (o := HO.tup []) ne0
    refine ⟨.tuple ds, .tuple [], .tup (sqT_same s1 hs) (DpAll.same s1 ha), .tup (SqT.of upd_same) .nil, nn.shaped (by decide), by decide, _, rfl, ?_⟩
    cases ds with
    | nil =>
      refine iteA (by simp [PyData.eqv, PyData.eqvAll]) (k false _ s1 ⟨(fun h => by cases h), ?_⟩)
      rintro (⟨h, _⟩ | ⟨d1, d2, d3, h, _⟩)
      · cases h
      · cases h
    | cons d0 ds =>
    refine iteB (by simp [PyData.eqv, PyData.eqvAll]) ?_
    obtain ⟨v0, g0, h0⟩ := DpAll.get ha (i := 0) rfl
    have ni := nice_item nn
    have hv0 : VD K H v0 d0 := .inl ⟨h0, ni d0 List.mem_cons_self⟩
    obtain ⟨t0, tx0, _, kt0⟩ := vd_isi (hv0.same s1)
    refine ⟨_, rfl, q, _, _, _, rfl, rfl, sqT_same s1 hs, atI_nat (j := 0) g0, _, _, t0, _, isStrB d0, rfl, .ty _, tx0, kt0, _, rfl, ?_⟩
    cases es : isStrB d0 with
    | false =>
      refine iteA rfl (k false _ s1 ⟨(fun h => by cases h), ?_⟩)
      rintro (⟨h, _⟩ | ⟨d1, d2, d3, h, _⟩)
      · cases h
        cases es
      · cases h
        cases es
    | true =>
    obtain ⟨z, rfl, rfl, _, _⟩ := vd_str hv0 es
    refine iteB rfl ⟨_, rfl, q, _, _, _, rfl, rfl, sqT_same s1 hs, atI_nat (j := 0) g0, rfl, _, rfl, ?_⟩
    have xl := DpAll.len ha
    rw [List.length_cons] at xl
    have dz : ∀ y : Str, decide (V.str z = V.str y) = decide (z = y) := fun y => by
      by_cases h : z = y
      · rw [h]
        simp
      · rw [decide_eq_false h, decide_eq_false fun e => h (V.str.inj e)]
    rw [dz]
    by_cases z1 : z = "sure"
    · subst z1
      refine iteA (by simp) ?_
      refine ⟨_, rfl, q, _, rfl, .inr (sqT_same s1 hs), rfl, _, rfl, ?_⟩
      by_cases l1 : ds = []
      · subst l1
        refine iteA (decide_eq_true (by rw [xl]; rfl)) ?_
        refine ⟨_, rfl, _, rfl, _, rfl, _, rfl, lo, tb, t, L, ys, n, rfl, la.same s1, ok, ta.same s1, sqT_same s1 ht, n3, fun H2 s2 => k _ _ (s1.trans s2) ?_⟩
        constructor
        · exact fun h => .inl ⟨rfl, h⟩
        · rintro (⟨_, h⟩ | ⟨d1, d2, d3, h, _⟩)
          · exact h
          · cases h
      · refine iteB (decide_eq_false fun h => l1 ?_) ?_
        · have := V.int.inj h
          have : ds.length = 0 := by omega
          exact List.length_eq_zero_iff.mp this
        · refine k false _ s1 ⟨(fun h => by cases h), ?_⟩
          rintro (⟨h, _⟩ | ⟨d1, d2, d3, h, _⟩)
          · cases h
            exact absurd rfl l1
          · have := (List.cons.inj (PyData.tuple.inj h)).1
            have := PyData.str.inj this
            revert this
            decide +kernel
    · refine iteB (decide_eq_false z1) ?_
      refine ⟨_, rfl, q, _, _, _, rfl, rfl, sqT_same s1 hs, atI_nat (j := 0) g0, rfl, _, rfl, ?_⟩
      rw [dz]
      have no1 : ∀ ys, ¬ (PyData.tuple (.str z :: ds) = .tuple (strsD ["sure"]) ∧ ys) := fun ys ⟨h, _⟩ => z1 (PyData.str.inj (List.cons.inj (PyData.tuple.inj h)).1)
      by_cases z2 : z = "open"
      · subst z2
        refine iteA (by simp) ?_
        refine ⟨_, rfl, q, _, rfl, .inr (sqT_same s1 hs), rfl, _, rfl, ?_⟩
        by_cases l4 : ds.length = 3
        · refine iteA (decide_eq_true (by rw [xl, l4]; rfl)) ?_
          match ds, l4 with
          | [d1, d2, d3], _ =>
            obtain ⟨v1, g1, h1⟩ := DpAll.get ha (i := 1) rfl
            obtain ⟨v2, g2, h2⟩ := DpAll.get ha (i := 2) rfl
            obtain ⟨v3, g3, h3⟩ := DpAll.get ha (i := 3) rfl
            match xs, xl, g0, g1, g2, g3 with
            | [x0, x1, x2, x3], _, g0, g1, g2, g3 =>
              cases g1
              cases g2
              cases g3
              refine ⟨_, rfl, _, rfl, _, rfl, _, rfl, _, rfl, ?_⟩
              refine ⟨1, rfl, q, _, rfl, sqT_same s1 hs, (show ¬ (HT.sIx 4 0 (some 1) = 0 ∧ HT.sIx 4 4 none = 4) by decide), fun p np => ?_⟩
              have s2 := same_new (o := HO.tup [v1, v2, v3]) np
              have s12 := s1.trans s2
              refine ⟨lo, tb, t, p, L, ys, v1, v2, v3, d1, d2, d3, n, rfl, la.same s12, ok, ta.same s12, sqT_same s12 ht, ysub, upd_same, .inl ⟨Dp.same s12 h1, ni _ (by simp)⟩, .inl ⟨Dp.same s12 h2, ni _ (by simp)⟩, .inl ⟨Dp.same s12 h3, ni _ (by simp)⟩, n3, fun b H3 s3 hb => k b _ (s12.trans s3) ?_⟩
              rw [hb]
              constructor
              · exact fun h => .inr ⟨_, _, _, rfl, h⟩
              · rintro (h | ⟨e1, e2, e3, h, o⟩)
                · exact absurd h (no1 _)
                · cases h
                  exact o
        · refine iteB (decide_eq_false fun h => l4 ?_) ?_
          · have := V.int.inj h
            omega
          · refine k false _ s1 ⟨(fun h => by cases h), ?_⟩
            rintro (h | ⟨d1, d2, d3, h, _⟩)
            · exact absurd h (no1 _)
            · cases h
              exact absurd rfl l4
      · refine iteB (decide_eq_false z2) ?_
        refine k false _ s1 ⟨(fun h => by cases h), ?_⟩
        rintro (h | ⟨d1, d2, d3, h, _⟩)
        · exact absurd h (no1 _)
        · exact absurd (PyData.str.inj (List.cons.inj (PyData.tuple.inj h)).1) z2
end
end K6
set_option Elab.async false
set_option linter.all false
set_option maxRecDepth 100000
set_option maxHeartbeats 1500000
set_option pp.maxSteps 1200
set_option pp.deepTerms false
namespace K6
open PySem PySem.Spec PyProof.Rows L2 Lk
/-! ### terms that give data, told once -/
/-- a value that is data, with these bounds -/
def GdV (K : PySem.W.Frag) (as : List Addr) (c k : Nat) (H : Hp) (v : V) : Prop := ∃ d, Dp K (hid as H) v d ∧ Nice c k d
/-- a tuple of at most m data -/
def GtV (K : PySem.W.Frag) (as : List Addr) (c k m : Nat) (H : Hp) (v : V) : Prop := ∃ q ds, v = .ref q ∧ Dp K (hid as H) (.ref q) (.tuple ds) ∧ ds.length ≤ m ∧ ∀ d ∈ ds, Nice c k d
def Gd (K : PySem.W.Frag) (a : Addr) (as : List Addr) (P : Hp → V → Prop) (n : Nat) (te : TE) (σ : L2.St) (H : Hp) : Prop :=
  ∀ H1 N, ExtP a H H1 → PotA a as N H1 → N + n ≤ 50000 → ∀ Q : VK, (∀ v H2, ExtP a H1 H2 → PotA a as (N + n) H2 → P H2 v → Q v H2) → te σ H1 Q
def GdA (K : PySem.W.Frag) (a : Addr) (as : List Addr) (c k m n : Nat) (ta : TA) (σ : L2.St) (H : Hp) : Prop :=
  ∀ H1 N, ExtP a H H1 → PotA a as N H1 → N + n ≤ 50000 → ∀ Q : List V → Hp → Prop, (∀ vs H2, ExtP a H1 H2 → PotA a as (N + n) H2 → (∃ ds, DpAll K (hid as H2) vs ds ∧ ds.length = m ∧ ∀ d ∈ ds, Nice c k d) → Q vs H2) → ta σ H1 Q
theorem dpAll_ext {K : PySem.W.Frag} {a : Addr} {as : List Addr} {H H' : Hp} {vs : List V} {ds : List PyData} (ha : a ∈ as) (h : DpAll K (hid as H) vs ds) (x : ExtP a H H') : DpAll K (hid as H') vs ds := DpAll.same (hid_ext ha x) h
section
variable {K : PySem.W.Frag} {a : Addr} {as : List Addr} {σ : L2.St} {H : Hp} {c k m n : Nat}
theorem GdV.ext {H' : Hp} {v : V} (h : GdV K as c k H v) (ha : a ∈ as) (x : ExtP a H H') : GdV K as c k H' v := let ⟨d, h1, h2⟩ := h; ⟨d, dp_ext ha h1 x, h2⟩
theorem GtV.ext {H' : Hp} {v : V} (h : GtV K as c k m H v) (ha : a ∈ as) (x : ExtP a H H') : GtV K as c k m H' v := let ⟨q, ds, e, h1, h2⟩ := h; ⟨q, ds, e, dp_ext ha h1 x, h2⟩
theorem GtV.gd {v : V} {c' k' : Nat} (h : GtV K as c k m H v) (hc : m * (c + 1) ≤ c') (hk : k + 1 ≤ k') : GdV K as c' k' H v := let ⟨q, ds, e, h1, h2, h3⟩ := h; ⟨_, e ▸ h1, (Nice.tup h3 h2).mono hc hk⟩
theorem GdV.mono {v : V} {c' k' : Nat} (h : GdV K as c k H v) (hc : c ≤ c') (hk : k ≤ k') : GdV K as c' k' H v := let ⟨d, h1, h2⟩ := h; ⟨d, h1, h2.mono hc hk⟩
theorem gd_var {i : Nat} {v : V} (hσ : σ[i]? = some (some v)) (g : GdV K as c k H v) : Gd K a as (GdV K as c k) 0 (tVar i) σ H := fun H1 N x p _ Q hQ => ⟨v, hσ, hQ _ _ (.refl _ _) p (g.ext p.mem x)⟩
theorem gt_var {i : Nat} {v : V} (hσ : σ[i]? = some (some v)) (g : GtV K as c k m H v) : Gd K a as (GtV K as c k m) 0 (tVar i) σ H := fun H1 N x p _ Q hQ => ⟨v, hσ, hQ _ _ (.refl _ _) p (g.ext p.mem x)⟩
theorem gd_str {z : Str} (h : Nice c k (.str z)) : Gd K a as (GdV K as c k) 0 (tC (.str z)) σ H := fun H1 N x p _ Q hQ => hQ _ _ (.refl _ _) p ⟨_, .str z, h⟩
theorem gd_non : Gd K a as (GdV K as c k) 0 (tC .non) σ H := fun H1 N x p _ Q hQ => hQ _ _ (.refl _ _) p ⟨_, .non, nice_none.mono (Nat.zero_le _) (Nat.zero_le _)⟩
theorem gda_nil : GdA K a as c k 0 0 tNil σ H := fun H1 N x p _ Q hQ => hQ _ _ (.refl _ _) p ⟨[], .nil, rfl, fun d h => by cases h⟩
theorem gda_cons {n1 n2 : Nat} {te : TE} {ta : TA} (h : Gd K a as (GdV K as c k) n1 te σ H) (t : GdA K a as c k m n2 ta σ H) : GdA K a as c k (m + 1) (n1 + n2) (tCons te ta) σ H := fun H1 N x p hN Q hQ =>
  h H1 N x p (by omega) _ fun v H2 x2 p2 g2 => t H2 (N + n1) (x.trans x2) p2 (by omega) _ fun vs H3 x3 p3 ⟨ds, h1, h2, h3⟩ => by
    obtain ⟨d, g1, g3⟩ := g2
    refine hQ _ _ (x2.trans x3) (by rw [← Nat.add_assoc]; exact p3) ⟨d :: ds, .cons (dp_ext p3.mem g1 x3) h1, by rw [List.length_cons, h2], fun e he => ?_⟩
    rcases List.mem_cons.mp he with rfl | he
    · exact g3
    · exact h3 e he
theorem gt_tup {ta : TA} (t : GdA K a as c k m n ta σ H) (hm : m ≤ 1000) : Gd K a as (GtV K as c k m) n (tTup ta) σ H := fun H1 N x p hN Q hQ =>
  t H1 N x p hN _ fun vs H2 x2 p2 ⟨ds, h1, h2, h3⟩ => by
    have l := DpAll.len h1
    refine ⟨by rw [sizeLine_eq]; omega, fun q nq => ?_⟩
    exact hQ _ _ (x2.trans (.of (same_new nq))) (p2.same (same_new nq)) ⟨q, ds, rfl, dp_new p2.ne nq h1, by omega, h3⟩
theorem gt_gd {c' k' : Nat} {te : TE} (t : Gd K a as (GtV K as c k m) n te σ H) (hc : m * (c + 1) ≤ c') (hk : k + 1 ≤ k') : Gd K a as (GdV K as c' k') n te σ H := fun H1 N x p hN Q hQ =>
  t H1 N x p hN Q fun v H2 x2 p2 g => hQ v H2 x2 p2 (g.gd hc hk)
theorem gd_mono {c' k' : Nat} {te : TE} (t : Gd K a as (GdV K as c k) n te σ H) (hc : c ≤ c') (hk : k ≤ k') : Gd K a as (GdV K as c' k') n te σ H := fun H1 N x p hN Q hQ =>
  t H1 N x p hN Q fun v H2 x2 p2 g => hQ v H2 x2 p2 (g.mono hc hk)
/-- a part that is told in the text -/
def CnT (t : TO) : Prop := ∀ σ H (Q : Option Int → Hp → Prop), (∀ o, Q o H) → t σ H Q
theorem cn_no : CnT tNoPart := fun _ _ _ h => h _
theorem cn_int {i : Int} : CnT (tPart (tC (.int i))) := fun _ _ _ h => ⟨i, rfl, h _⟩
theorem gt_sl {te : TE} {tl th : TO} (t : Gd K a as (GtV K as c k m) n te σ H) (hl : CnT tl) (hh : CnT th) : Gd K a as (GtV K as c k m) n (tSl (rSlA K) te tl th) σ H := fun H1 N x p hN Q hQ =>
  t H1 N x p hN _ fun v H2 x2 p2 ⟨q, ds, e, h1, h2, h3⟩ => by
    subst e
    refine hl _ _ _ fun lo => hh _ _ _ fun hi => ?_
    exact slice_dp p2.ne h1 fun p' H' es s' m' l' d' => hQ _ _ (x2.trans (.of s')) (p2.same s') ⟨p', es, rfl, d', by omega, fun e he => h3 e (m' e he)⟩
theorem gt_rev {te : TE} (t : Gd K a as (GtV K as c k m) n te σ H) : Gd K a as (GtV K as c k m) n (tRev K te) σ H := fun H1 N x p hN Q hQ =>
  t H1 N x p hN _ fun v H2 x2 p2 ⟨q, ds, e, h1, h2, h3⟩ => by
    subst e
    exact rev_dp p2.ne h1 fun p' H' s' d' => hQ _ _ (x2.trans (.of s')) (p2.same s') ⟨p', _, rfl, d', by rw [List.length_reverse]; exact h2, fun e he => h3 e (List.mem_reverse.mp he)⟩
theorem gt_cat {m1 m2 n1 n2 : Nat} {t1 t2 : TE} (h1 : Gd K a as (GtV K as c k m1) n1 t1 σ H) (h2 : Gd K a as (GtV K as c k m2) n2 t2 σ H) (hm : m1 + m2 ≤ 1000) : Gd K a as (GtV K as c k (m1 + m2)) (n1 + n2) (tOp (rCatA K) t1 t2) σ H := fun H1 N x p hN Q hQ =>
  h1 H1 N x p (by omega) _ fun v H2 x2 p2 ⟨q, ds, e, g1, g2, g3⟩ => h2 H2 (N + n1) (x.trans x2) p2 (by omega) _ fun u H3 x3 p3 ⟨r, es, e', f1, f2, f3⟩ => by
    subst e e'
    refine cat_dp p3.ne (dp_ext p3.mem g1 x3) f1 (by omega) fun p' H' s' d' => hQ _ _ ((x2.trans x3).trans (.of s')) (by rw [← Nat.add_assoc]; exact p3.same s') ⟨p', _, rfl, d', by rw [List.length_append]; omega, fun e he => ?_⟩
    exact (List.mem_append.mp he).elim (g3 e) (f3 e)
/-- list(t) -/
theorem gd_list {c' k' : Nat} {te : TE} (t : Gd K a as (GtV K as c k m) n te σ H) (hc : m * (c + 1) ≤ c') (hk : k + 1 ≤ k') :
    Gd K a as (GdV K as c' k') n (tCB (fun xs H Q => ∃ p ys, xs = [V.ref p] ∧ (SqL K H p ys ∨ SqT K H p ys) ∧ ∀ l, H l = none → Q (.ref l) (upd H l (.lst ys))) (tCons te tNil)) σ H := fun H1 N x p hN Q hQ =>
  t H1 N x p hN _ fun v H2 x2 p2 ⟨q, ds, e, h1, h2, h3⟩ => by
    subst e
    cases h1 with
    | @tup _ xs _ hs h =>
      refine ⟨q, xs, rfl, .inr (sqT_same hid_sub hs), fun l nl => hQ _ _ (x2.trans (.of (same_new nl))) (p2.same (same_new nl)) ⟨.list ds, dp_newL p2.ne nl h, (Nice.lst h3 h2).mono hc hk⟩⟩
/-- t[i] of a name -/
theorem gd_ix {i j : Nat} {q : Addr} {xs : List V} {v : V} (hσ : σ[i]? = some (some (.ref q))) (hs : SqT K (hid as H) q xs) (hv : xs[j]? = some v) (g : GdV K as c k H v) : Gd K a as (GdV K as c k) 0 (tOp (rIxT K) (tVar i) (tC (.int (j : Int)))) σ H := fun H1 N x p _ Q hQ =>
  ⟨_, hσ, q, xs, _, v, rfl, rfl, sqT_same hid_sub (sqT_same (hid_ext p.mem x) hs), atI_nat hv, hQ _ _ (.refl _ _) p (g.ext p.mem x)⟩
theorem gt_ix {i j : Nat} {q : Addr} {xs : List V} {v : V} (hσ : σ[i]? = some (some (.ref q))) (hs : SqT K (hid as H) q xs) (hv : xs[j]? = some v) (g : GtV K as c k m H v) : Gd K a as (GtV K as c k m) 0 (tOp (rIxT K) (tVar i) (tC (.int (j : Int)))) σ H := fun H1 N x p _ Q hQ =>
  ⟨_, hσ, q, xs, _, v, rfl, rfl, sqT_same hid_sub (sqT_same (hid_ext p.mem x) hs), atI_nat hv, hQ _ _ (.refl _ _) p (g.ext p.mem x)⟩
theorem gd_add {i : Nat} {z y : Str} (hσ : σ[i]? = some (some (.str z))) (hl : z.length + y.length ≤ sizeLine) (g : Nice c k (.str (z ++ y))) :
    Gd K a as (GdV K as c k) 0 (tOp (fun x y H Q => ∃ i j, x = V.str i ∧ y = V.str j ∧ i.length + j.length ≤ sizeLine ∧ Q (.str (i ++ j)) H) (tVar i) (tC (.str y))) σ H := fun H1 N x p _ Q hQ =>
  ⟨_, hσ, z, y, rfl, rfl, hl, hQ _ _ (.refl _ _) p ⟨_, .str _, g⟩⟩
/-- the values of a list so far -/
def GdL (K : PySem.W.Frag) (as : List Addr) (c k : Nat) (H : Hp) (xs : List V) : Prop := ∀ x ∈ xs, GdV K as c k H x
theorem GdL.ext {H' : Hp} {xs : List V} (h : GdL K as c k H xs) (ha : a ∈ as) (x : ExtP a H H') : GdL K as c k H' xs := fun v hv => (h v hv).ext ha x
theorem gdl_of {vs : List V} (h : ∃ ds, DpAll K (hid as H) vs ds ∧ ds.length = m ∧ ∀ d ∈ ds, Nice c k d) : GdL K as c k H vs ∧ vs.length = m := by
  obtain ⟨ds, h1, h2, h3⟩ := h
  refine ⟨fun v hv => ?_, by rw [DpAll.len h1, h2]⟩
  obtain ⟨zs, e1, e2, e3⟩ := dpAll_zip h1
  rw [← e1] at hv
  obtain ⟨z, hz, rfl⟩ := List.mem_map.mp hv
  exact ⟨z.2, e3 z hz, h3 _ (by rw [← e2]; exact List.mem_map.mpr ⟨z, hz, rfl⟩)⟩
theorem hid_upd {F : Addr} {o : HO} (hF : F ∈ as) : Same (hid as H) (hid as (upd H F o)) := hid_but fun b o' hb e => by
  rw [upd_ne (fun z : b = F => hb (by rw [z]; exact hF))]
  exact e
/-- found.extend([..]) -/
theorem ext_wish {F : Addr} {xs : List V} {ta : TA} {N : Nat} {Q : VK} {i : Nat} (hA : GdA K a as c k m n ta σ H) (hp : PotA a as N H) (hN : N + n ≤ 50000) (hm : m ≤ 1000) (hσ : σ[i]? = some (some (.ref F))) (Fa : F ≠ a) (hF : F ∈ as) (eF : H F = some (.lst xs)) (xl : xs.length ≤ 1000)
    (g : GdL K as c k H xs) (hQ : ∀ vs H', (∀ b o, b ≠ a → b ≠ F → H b = some o → H' b = some o) → PotA a as (N + n) H' → H' F = some (.lst (xs ++ vs)) → vs.length = m → GdL K as c k H' (xs ++ vs) → Q .non H') :
    tBM K "list" rExtend (tVar i) (tCons (tLst ta) tNil) σ H Q := by
  refine ⟨_, hσ, .inl ⟨rfl, _, SqL.of eF⟩, ?_⟩
  refine hA H N (.refl _ _) hp hN _ fun vs H2 x2 p2 gd => ?_
  obtain ⟨g2, vl⟩ := gdl_of gd
  refine ⟨by rw [sizeLine_eq]; omega, fun l nl => ?_⟩
  have s3 : Same H2 (upd H2 l (.lst vs)) := same_new nl
  have eF2 := x2 _ _ Fa eF
  have p3 := p2.same s3
  have eF3 := s3 _ _ eF2
  have el : upd H2 l (.lst vs) l = some (.lst vs) := upd_same
  have g3 := g2.ext p2.mem (.of s3)
  have g4 := (g.ext p2.mem x2).ext p2.mem (.of s3)
  generalize upd H2 l (.lst vs) = H3 at s3 p3 eF3 el g3 g4 ⊢
  refine ⟨F, l, xs, vs, rfl, rfl, eF3, el, by rw [sizeLine_eq]; omega, hQ vs _ (fun b o ba bF e => ?_) ⟨?_, fun b hb e => ?_, p3.mem⟩ upd_same vl fun v hv => ?_⟩
  · rw [upd_ne bF]
    exact s3 _ _ (x2 _ _ ba e)
  · obtain ⟨o, b, c, e, r⟩ := p3.pot
    exact ⟨o, b, c, by rw [upd_ne Fa.symm]; exact e, r⟩
  · by_cases z : b = F
    · subst z
      rw [upd_same] at e
      cases e
    · rw [upd_ne z] at e
      exact p3.ne b hb e
  · have : GdV K as c k H3 v := (List.mem_append.mp hv).elim (g4 v) (g3 v)
    obtain ⟨d, h1, h2⟩ := this
    exact ⟨d, Dp.same (hid_upd hF) h1, h2⟩
/-- found = [..] -/
theorem set_wish {ta : TA} {N i : Nat} {u : TS} {D : Ends} (hA : GdA K a as c k m n ta σ H) (hp : PotA a as N H) (hN : N + n ≤ 50000) (hm : m ≤ 1000)
    (hQ : ∀ vs F H', ExtP a H H' → PotA a as (N + n) H' → H F = none → F ≠ a → H' F = some (.lst vs) → vs.length = m → GdL K as c k H' vs → (∀ v ∈ vs, ∃ d, Dp K (hid (F :: as) H') v d ∧ Nice c k d) → u D (σ.set i (some (.ref F))) H') :
    tSeq (tAsg (tLst ta) (gName i)) u D σ H := by
  refine hA H N (.refl _ _) hp hN _ fun vs H2 x2 p2 gd => ?_
  obtain ⟨g2, vl⟩ := gdl_of gd
  refine ⟨by rw [sizeLine_eq]; omega, fun F nF => ?_⟩
  have s3 : Same H2 (upd H2 F (.lst vs)) := same_new nF
  have HF : H F = none := by
    cases z : H F with
    | none => rfl
    | some o => rw [x2 _ _ (p2.nea nF) z] at nF; cases nF
  refine hQ vs F _ (x2.trans (.of s3)) (p2.same s3) HF (p2.nea nF) upd_same vl (g2.ext p2.mem (.of s3)) fun v hv => ?_
  obtain ⟨d, h1, h2⟩ := g2 v hv
  refine ⟨d, Dp.same (fun b o e => ?_) h1, h2⟩
  have nb : b ∉ as := fun hb => by unfold hid at e; rw [if_pos hb] at e; cases e
  rw [hid_ne nb] at e
  have bF : b ≠ F := fun z => by rw [z, nF] at e; cases e
  rw [hid_ne (fun h => (List.mem_cons.mp h).elim bF nb), upd_ne bF]
  exact e
theorem ext_seq {F : Addr} {xs : List V} {ta : TA} {N i : Nat} {u : TS} {D : Ends} (hA : GdA K a as c k m n ta σ H) (hp : PotA a as N H) (hN : N + n ≤ 50000) (hm : m ≤ 1000) (hσ : σ[i]? = some (some (.ref F))) (Fa : F ≠ a) (hF : F ∈ as) (eF : H F = some (.lst xs)) (xl : xs.length ≤ 1000)
    (g : GdL K as c k H xs) (hQ : ∀ vs H', (∀ b o, b ≠ a → b ≠ F → H b = some o → H' b = some o) → PotA a as (N + n) H' → H' F = some (.lst (xs ++ vs)) → vs.length = m → GdL K as c k H' (xs ++ vs) → u D σ H') :
    tSeq (tDrop (tBM K "list" rExtend (tVar i) (tCons (tLst ta) tNil))) u D σ H := ext_wish hA hp hN hm hσ Fa hF eF xl g hQ
theorem ext_one {F : Addr} {xs : List V} {ta : TA} {N i : Nat} {D : Ends} (hA : GdA K a as c k m n ta σ H) (hp : PotA a as N H) (hN : N + n ≤ 50000) (hm : m ≤ 1000) (hσ : σ[i]? = some (some (.ref F))) (Fa : F ≠ a) (hF : F ∈ as) (eF : H F = some (.lst xs)) (xl : xs.length ≤ 1000)
    (g : GdL K as c k H xs) (hQ : ∀ vs H', (∀ b o, b ≠ a → b ≠ F → H b = some o → H' b = some o) → PotA a as (N + n) H' → H' F = some (.lst (xs ++ vs)) → vs.length = m → GdL K as c k H' (xs ++ vs) → D.nx σ H') :
    tDrop (tBM K "list" rExtend (tVar i) (tCons (tLst ta) tNil)) D σ H := ext_wish hA hp hN hm hσ Fa hF eF xl g hQ
/-- what was before a new list is told beside it -/
theorem hid_add {F : Addr} {H' : Hp} (nF : H F = none) (x : ExtP a H H') : Same (hid [a] H) (hid [F, a] H') := fun b o e => by
  have nb : b ∉ [a] := fun hb => by unfold hid at e; rw [if_pos hb] at e; cases e
  rw [hid_ne nb] at e
  have bF : b ≠ F := fun z => by rw [z, nF] at e; cases e
  rw [hid_ne (fun h => (List.mem_cons.mp h).elim bF nb)]
  exact x b o (fun z => nb (by rw [z]; exact List.mem_singleton.mpr rfl)) e
theorem gt_add {F : Addr} {H' : Hp} {v : V} (nF : H F = none) (x : ExtP a H H') (g : GtV K [a] c k m H v) : GtV K [F, a] c k m H' v := let ⟨q, ds, e, h1, h2⟩ := g; ⟨q, ds, e, Dp.same (hid_add nF x) h1, h2⟩
theorem gd_add' {F : Addr} {H' : Hp} {v : V} (nF : H F = none) (x : ExtP a H H') (g : GdV K [a] c k H v) : GdV K [F, a] c k H' v := let ⟨d, h1, h2⟩ := g; ⟨d, Dp.same (hid_add nF x) h1, h2⟩
theorem gt_but {F : Addr} {H' : Hp} {v : V} (ha : a ∈ as) (hF : F ∈ as) (g : GtV K as c k m H v) (y : ∀ b o, b ≠ a → b ≠ F → H b = some o → H' b = some o) : GtV K as c k m H' v := let ⟨q, ds, e, h1, h2⟩ := g; ⟨q, ds, e, Dp.same (hid_but fun b o hb e => y b o (fun z => hb (by rw [z]; exact ha)) (fun z => hb (by rw [z]; exact hF)) e) h1, h2⟩
theorem hid_weak {F : Addr} : Same (hid (F :: as) H) (hid as H) := fun b o e => by
  have nb : b ∉ F :: as := fun hb => by unfold hid at e; rw [if_pos hb] at e; cases e
  rw [hid_ne nb] at e
  rw [hid_ne (fun h => nb (List.mem_cons_of_mem _ h))]
  exact e
theorem GdV.weak {F : Addr} {v : V} (g : GdV K (F :: as) c k H v) : GdV K as c k H v := let ⟨d, h1, h2⟩ := g; ⟨d, Dp.same hid_weak h1, h2⟩
/-- a drawn lot -/
theorem gd_alot {i j : Nat} {nm : Addr} {ns : List Str} (h0 : σ[i]? = some (some (.ref a))) (h1 : σ[j]? = some (some (.ref nm))) (hn : SqT K (hid as H) nm (ns.map V.str)) (nma : nm ≠ a) (nd : ns.Nodup) (n6 : ns.length ≤ 6) (asc : ∀ z ∈ ns, PyData.strOk z = true ∧ z.length ≤ 8) :
    Gd K a as (GtV K as 8 0 6) 20 (tCall (spALot K) [] E0 (tCons (tVar i) (tCons (tVar j) (tCons (tC (.int 0)) tNil)))) σ H := fun H1 N x p hN Q hQ =>
  ⟨_, h0, _, h1, a, nm, 0, N, ns, rfl, p.pot, by omega, nma, .inr (sqT_same hid_sub (sqT_same (hid_ext p.mem x) hn)), nd, by omega, by decide, by omega, fun zs q H2 sub _ x2 p2 nq eq => by
    refine hQ (.ref q) H2 x2 (p.ext x2 p2) ⟨q, strsD zs, rfl, .tup (SqT.of (by rw [hid_ne (ne_fresh p.ne nq)]; exact eq)) (dp_strs zs), ?_, fun d hd => ?_⟩
    · have := sub.length_le
      unfold strsD
      rw [List.length_map]
      omega
    · obtain ⟨z, hz, rfl⟩ := List.mem_map.mp hd
      have := asc z (sub.subset hz)
      exact Nice.str this.1 this.2⟩
end
end K6
set_option Elab.async false
set_option linter.all false
set_option maxRecDepth 100000
set_option maxHeartbeats 2000000
set_option pp.maxSteps 1200
set_option pp.deepTerms false
namespace K6
open PySem PySem.Spec PyProof.Rows L2 Lk
abbrev sNear : Stmt := top 91
theorem hid_one {a b : Addr} {H : Hp} {N : Nat} {o : HO} (hp : PotAt a N H) (e : H b = some o) (n : ∀ xs, o ≠ .lst xs) : hid [a] H b = some o := by
  rw [hid_ne]
  · exact e
  · intro h
    rw [List.mem_singleton.mp h] at e
    obtain ⟨_, _, _, h, _⟩ := hp
    rw [h] at e
    cases e
    exact n _ rfl
theorem asc_names {L : Lore} (ok : LoreOk L) {z : Str} (h : z ∈ L.kps.map (·.1)) : ascB z ∧ z.length ≤ 8 := by
  have e : (namePool.all fun z => z.cps.toList.all (fun c => decide (c < 128)) && decide (z.length ≤ 8)) = true := by decide +kernel
  obtain ⟨k, hk, rfl⟩ := List.mem_map.mp h
  have := List.all_eq_true.mp e _ (ok.kp k hk)
  obtain ⟨h1, h2⟩ := Bool.and_eq_true_iff.mp this
  exact ⟨fun c hc => of_decide_eq_true (List.all_eq_true.mp h1 c hc), of_decide_eq_true h2⟩
theorem LotE.keep {H H' : Hp} {t : Addr} {ys : List Str} (h : LotE H t ys) (k : Keep H H') : LotE H' t ys := h.elim (fun h => .inl (k _ _ h fun _ z => by cases z)) fun h => .inr (h.keep k)
theorem asc_stv (v : Vec) : ascB (stv v) := fun c hc => by
  have := stv_bits v c hc
  omega
theorem b0_stv {L : Lore} (ok : LoreOk L) {v : Vec} (h : v.length = L.parts.length) : B0 (.str (stv v)) := ⟨_, rfl, asc_stv v, by have := (stv_nice ok h).2; omega⟩
theorem b0_word {z : Str} (h : (z.cps.toList.all (fun c => decide (c < 128)) && decide (z.length ≤ 8)) = true) : B0 (.str z) := by
  obtain ⟨h1, h2⟩ := Bool.and_eq_true_iff.mp h
  exact ⟨z, rfl, fun c hc => of_decide_eq_true (List.all_eq_true.mp h1 c hc), of_decide_eq_true h2⟩
theorem b0_nice {d : PyData} (h : B0 d) : Nice 8 0 d := by
  obtain ⟨z, rfl, za, zl⟩ := h
  exact Nice.str (asc_ok za) zl
section
variable {K : PySem.W.Frag} {a t : Addr} {H : Hp} {N : Nat} {L : Lore}
theorem gt_lot (ok : LoreOk L) {ys : List Str} (hp : PotAt a N H) (h : LotE H t ys) (sub : ys.Sublist (L.kps.map (·.1))) : GtV K [a] 8 0 6 H (.ref t) := by
  refine ⟨t, strsD ys, rfl, .tup ?_ (dp_strs ys), ?_, fun d hd => ?_⟩
  · rcases h with h | ⟨ob, e, r⟩
    · exact SqT.of (hid_one hp h fun _ z => by cases z)
    · exact .inl (.inr ⟨ob, hid_one hp e fun _ z => by cases z⟩)
  · have h1 := sub.length_le
    have h2 := ok.k6
    have e : (strsD ys).length = ys.length := by unfold strsD; rw [List.length_map]
    rw [List.length_map] at h1
    omega
  · obtain ⟨z, hz, rfl⟩ := List.mem_map.mp hd
    have := asc_names ok (sub.subset hz)
    exact Nice.str (asc_ok this.1) this.2
/-- what overruled tells, as data -/
theorem heard_data (ok : LoreOk L) {q : Addr} {ys : List Str} {n : Nat} (hp : PotAt a N H) (h : OverAt H q L ys n) : ∃ xs hs, SqT K (hid [a] H) q xs ∧ DpAll K (hid [a] H) xs hs ∧ Bn 3 (.tuple hs) ∧ hs.length ≤ 4 ∧ (∀ d ∈ hs, Nice 60 1 d) ∧
    (xs = [.str "sure"] ∨ ∃ v1 v2 d, xs = [.str "open", v1, v2, .ref d] ∧ GdV K [a] 60 1 H v1 ∧ GdV K [a] 60 1 H v2 ∧ GtV K [a] 8 0 6 H (.ref d)) := by
  rcases h with ⟨h, _⟩ | ⟨v, d, row, ks, h1, h2, vl, rs, _⟩
  · have b : B0 (.str "sure") := b0_word (by decide +kernel)
    refine ⟨[.str "sure"], [.str "sure"], SqT.of (hid_one hp h fun _ z => by cases z), .cons (.str _) .nil, .inr ⟨_, rfl, by simp, fun e he => ?_⟩, by simp, fun e he => ?_, .inl rfl⟩
    · rw [List.mem_singleton.mp he]
      exact .inl b
    · rw [List.mem_singleton.mp he]
      exact (b0_nice b).mono (by omega) (by omega)
  · have gd := gt_lot (K := K) ok hp (.inl h2) rs
    have b1 : B0 (.str "open") := b0_word (by decide +kernel)
    have b2 := b0_stv ok (zv_len L.parts.length)
    have b3 := b0_stv ok vl
    have nr : Nice 54 1 (.tuple (strsD row)) := nice_lot (nmOk ok) rs
    have r6 : row.length ≤ 6 := Nat.le_trans rs.length_le (by rw [List.length_map]; exact ok.k6)
    have hd := hid_one hp h2 fun _ z => by cases z
    refine ⟨[.str "open", .str (stv (zv L.parts.length)), .str (stv v), .ref d], [.str "open", .str (stv (zv L.parts.length)), .str (stv v), .tuple (strsD row)], SqT.of (hid_one hp h1 fun _ z => by cases z),
      .cons (.str _) (.cons (.str _) (.cons (.str _) (.cons (.tup (SqT.of hd) (dp_strs row)) .nil))), .inr ⟨_, rfl, by simp, fun e he => ?_⟩, by simp, fun e he => ?_, .inr ⟨_, _, _, rfl, ?_, ?_, gd⟩⟩
    · simp only [List.mem_cons, List.not_mem_nil, or_false] at he
      rcases he with rfl | rfl | rfl | rfl
      · exact .inl b1
      · exact .inl b2
      · exact .inl b3
      · refine .inr ⟨_, rfl, by unfold strsD; rw [List.length_map]; exact r6, fun e he => ?_⟩
        obtain ⟨z, hz, rfl⟩ := List.mem_map.mp he
        have := asc_names ok (rs.subset hz)
        exact .inl ⟨z, rfl, this.1, this.2⟩
    · simp only [List.mem_cons, List.not_mem_nil, or_false] at he
      rcases he with rfl | rfl | rfl | rfl
      · exact (b0_nice b1).mono (by omega) (by omega)
      · exact (b0_nice b2).mono (by omega) (by omega)
      · exact (b0_nice b3).mono (by omega) (by omega)
      · exact nr.mono (by omega) (by omega)
    · exact ⟨_, .str _, (b0_nice b2).mono (by omega) (by omega)⟩
    · exact ⟨_, .str _, (b0_nice b3).mono (by omega) (by omega)⟩
end
section
variable {P : Program} {w : World} {K : PySem.W.Frag} {mg : Str → Option Value} {base : Heap} {f : Addr} {fd : FuncData}
/-! ### _law_near -/
def spNear (K : PySem.W.Frag) : Sp := fun vs H Q _ => ∃ (a lo tb t q : Addr) (L : Lore) (ys : List Str) (n N : Nat), vs = [.ref a, .ref lo, .ref tb, .ref t, .ref q] ∧ PotAt a N H ∧ N ≤ 20000 ∧ LoreAt H lo L ∧ LoreOk L ∧ TabAt H tb L ∧ LotE H t ys ∧ ys.Sublist (L.kps.map (·.1)) ∧ OverAt H q L ys n ∧
  ∀ (R : Addr) (vs : List V) (H' : Hp), ExtP a H H' → PotAt a (N + 200) H' → R ≠ a → H' R = some (.lst vs) → vs.length ≤ 100 → (∀ v ∈ vs, ∃ d, VD K (hid [a] H') v d) → Q (.ref R) H'
abbrev nmNe : List Str := ["pot", "lore", "table", "lot", "heard", "names", "all_records", "found", "lap", "one", "other", "gone"]
theorem scNear : FnScope nmNe ["pot", "lore", "table", "lot", "heard"] (defScope sNear) := ⟨rfl, rfl, rfl, by decide +kernel, rfl, by decide +kernel, by decide +kernel⟩
theorem ok_near {f1 f2 f3 f4 f5 f6 : Addr} {fd1 fd2 fd3 fd4 fd5 fd6 : FuncData} (F : Fun K "_law_near" "_law_near" sNear f fd) (T : Bl mg)
    (G1 : FnOk P w K mg base CX0 1 f1 fd1 ["lore"] spRecords) (a1 : At K mg "_law_records" f1 fd1 ["lore"])
    (G2 : FnOk P w K mg base CX0 2 f2 fd2 ["pot", "some"] (spOfA K)) (a2 : At K mg "_law_of" f2 fd2 ["pot", "some"])
    (G3 : FnOk P w K mg base CX0 1 f3 fd3 ["lore", "table", "one", "other", "lot"] (spApart K)) (a3 : At K mg "_law_apart" f3 fd3 ["lore", "table", "one", "other", "lot"])
    (G4 : FnOk P w K mg base CX0 3 f4 fd4 ["pot", "names", "few"] (spALot K)) (a4 : At K mg "_law_a_lot" f4 fd4 ["pot", "names", "few"])
    (G5 : FnOk P w K mg base CX0 6 f5 fd5 ["pot", "value"] (spBent K 3)) (a5 : At K mg "_law_bent" f5 fd5 ["pot", "value"])
    (G6 : FnOk P w K mg base CX0 3 f6 fd6 ["pot"] spOdd) (a6 : At K mg "_law_odd" f6 fd6 ["pot"]) :
    FnOk P w K mg base CX0 7 f fd ["pot", "lore", "table", "lot", "heard"] (spNear K) := by
  refine F.ok scNear (fun vs H Q E h => ?_) (fun cdv A outer s H vs Q E hr h => ?_)
  · obtain ⟨a, lo, tb, t, q, L, ys, n, N, rfl, _⟩ := h
    rfl
  · obtain ⟨a, lo, tb, t, q, L, ys, n, N, rfl, hp, hN, la, ok, ta, lot, ysub, ov, k⟩ := h
    have nd := scNear.nd
    have hu := hu_of hr
    have hr1 : Room 1 _ := hr.mono (by decide)
    have hr2 : Room 2 _ := hr.mono (by decide)
    have hr3 : Room 3 _ := hr.mono (by decide)
    refine ⟨_, pss_cons (ps_par (i := 5) (j := 6) rfl nd rfl rfl (by decide) rfl rfl (by exact (pa_cons (pe_dget hu (pv 1) pe_str (fun _ _ => rfl)) (pa_cons (pe_call G1 hr1 (by rfl) a1.m a1.kp a1.b .nil pass0 (pa_cons (pv 1) pa_nil)) pa_nil))) rfl)
      (pss_cons (ps_set (i := 7) nd rfl (.inl rfl) (pe_lst (pa_cons (pv 4) (pa_cons (pe_callTy call_list_of (by rfl) T.list boot_list (pa_cons (pv 4) pa_nil)) (pa_cons (pe_rev (pv 4) pe_neg1) (pa_cons (pe_slice sl_tupA (pv 4) po_none (po_some pe_int)) (pa_cons (pe_op op_catA (pv 4) (pe_tup (pa_cons (pe_tup pa_nil) pa_nil)))
          (pa_cons (pe_tup (pa_cons pe_str pa_nil)) (pa_cons (pe_tup (pa_cons pe_str (pa_cons (pe_tup pa_nil) pa_nil))) pa_nil)))))))))
      (pss_cons (ps_expr (pe_bm PySem.F.plainAttrs_list PySem.F.slot_list_extend PySem.F.type_list_extend mt_extend (pv 7) (pa_cons (pe_lst (pa_cons (pe_tup (pa_cons pe_str pa_nil)) (pa_cons pe_str (pa_cons pe_non (pa_cons (pe_tup pa_nil) pa_nil))))) pa_nil)))
      (pss_cons (ps_for PassesOwn.never rfl (pi_range1 (by rfl) T.range (pa_cons pe_int pa_nil)) (pg_name (i := 8) nd rfl (.inl rfl))
          (pss_cons (ps_par (i := 9) (j := 10) rfl nd rfl rfl (by decide) rfl rfl (by exact (pa_cons (pe_call G2 hr2 (by rfl) a2.m a2.kp a2.b .nil pass0 (pa_cons (pv 0) (pa_cons (pv 6) pa_nil))) (pa_cons (pe_call G2 hr2 (by rfl) a2.m a2.kp a2.b .nil pass0 (pa_cons (pv 0) (pa_cons (pv 6) pa_nil))) pa_nil))) rfl)
          (pss_cons (ps_set (i := 11) nd rfl (.inl rfl) (pe_call G3 hr1 (by rfl) a3.m a3.kp a3.b .nil pass0 (pa_cons (pv 1) (pa_cons (pv 2) (pa_cons (pv 9) (pa_cons (pv 10) (pa_cons (pv 3) pa_nil)))))))
          (pss_cons (ps_expr (pe_bm PySem.F.plainAttrs_list PySem.F.slot_list_extend PySem.F.type_list_extend mt_extend (pv 7) (pa_cons (pe_lst (pa_cons (pe_tup (pa_cons pe_str (pa_cons (pv 9) (pa_cons (pv 10) (pa_cons (pv 11) pa_nil)))))
              (pa_cons (pe_tup (pa_cons pe_str (pa_cons (pv 9) (pa_cons (pv 10) (pa_cons (pe_slice sl_tupA (pv 11) (po_some pe_int) po_none) pa_nil))))) (pa_cons (pe_tup (pa_cons pe_str (pa_cons (pv 10) (pa_cons (pv 9) (pa_cons (pe_rev (pv 11) pe_neg1) pa_nil))))) pa_nil)))) pa_nil)))
          (pss_cons (ps_expr (pe_bm PySem.F.plainAttrs_list PySem.F.slot_list_extend PySem.F.type_list_extend mt_extend (pv 7) (pa_cons (pe_lst (pa_cons (pe_tup (pa_cons pe_str (pa_cons (pv 9) (pa_cons (pv 10) (pa_cons (pv 3) pa_nil)))))
              (pa_cons (pe_tup (pa_cons pe_str (pa_cons (pv 9) (pa_cons (pv 10) (pa_cons (pe_call G4 hr3 (by rfl) a4.m a4.kp a4.b .nil pass0 (pa_cons (pv 0) (pa_cons (pv 5) (pa_cons pe_int pa_nil)))) pa_nil))))) pa_nil))) pa_nil)))
          (pss_one (ps_expr (pe_bm PySem.F.plainAttrs_list PySem.F.slot_list_extend PySem.F.type_list_extend mt_extend (pv 7) (pa_cons (pe_lst (pa_cons (pe_tup (pa_cons pe_str (pa_cons (pv 9) (pa_cons (pv 10) (pa_cons (pv 11) pa_nil)))))
              (pa_cons (pe_tup (pa_cons pe_str (pa_cons (pe_op op_add_str (pv 9) pe_str) (pa_cons (pv 10) (pa_cons (pv 11) pa_nil))))) pa_nil))) pa_nil)))))))))
      (pss_cons (ps_if (pt_cmpR op_eq (pe_ix ix_tup (pv 4) pe_int (fun _ _ => rfl)) pe_str (nomark _))
          (pss_cons (ps_expr (pe_bm PySem.F.plainAttrs_list PySem.F.slot_list_extend PySem.F.type_list_extend mt_extend (pv 7) (pa_cons (pe_lst (pa_cons (pe_tup (pa_cons pe_str (pa_cons (pe_ix ix_tup (pv 4) pe_int (fun _ _ => rfl)) (pa_cons (pe_ix ix_tup (pv 4) pe_int (fun _ _ => rfl)) (pa_cons (pe_ix ix_tup (pv 4) pe_int (fun _ _ => rfl)) pa_nil)))))
              (pa_cons (pe_tup (pa_cons pe_str (pa_cons (pe_ix ix_tup (pv 4) pe_int (fun _ _ => rfl)) (pa_cons (pe_ix ix_tup (pv 4) pe_int (fun _ _ => rfl)) (pa_cons (pe_ix ix_tup (pv 4) pe_int (fun _ _ => rfl)) pa_nil))))) pa_nil))) pa_nil)))
          (pss_one (ps_expr (pe_bm PySem.F.plainAttrs_list PySem.F.slot_list_extend PySem.F.type_list_extend mt_extend (pv 7) (pa_cons (pe_lst (pa_cons (pe_op op_catA (pe_op op_catA (pe_tup (pa_cons pe_str pa_nil)) (pe_slice sl_tupA (pv 4) (po_some pe_int) (po_some pe_int))) (pe_tup (pa_cons (pe_callTy call_list_of (by rfl) T.list boot_list (pa_cons (pe_ix ix_tup (pv 4) pe_int (fun _ _ => rfl)) pa_nil)) pa_nil)))
              (pa_cons (pe_op op_catA (pe_op op_catA (pe_tup (pa_cons pe_str pa_nil)) (pe_slice sl_tupA (pv 4) (po_some pe_int) (po_some pe_int))) (pe_tup (pa_cons (pv 5) pa_nil))) pa_nil))) pa_nil)))))  pss_nil)
      (pss_one (ps_ret (pe_op op_cat (pe_op op_cat (pv 7) (pe_lc (own := [("lap", 8)]) (g := gName 8) (tt := tYes) (te := tCall (spBent K 3) [] E0 (tCons (tVar 0) (tCons (tVar 4) tNil))) rfl nd (pi_range1 (by rfl) T.range (pa_cons pe_int pa_nil))
          (blkOk_by (N := nmNe) (sc := defScope sNear) (by decide +kernel)) (fun _ _ _ _ _ => pg_name (i := 8) nd rfl (.inl rfl)) (fun _ _ _ _ _ => pts_nil)
          (fun _ _ _ _ _ => pe_call G5 hr (by rfl) a5.m a5.kp a5.b .nil pass0 (pa_cons (pv 0) (pa_cons (pv 4) pa_nil)))))
        (pe_lst (pa_cons (pe_call G6 hr3 (by rfl) a6.m a6.kp a6.b .nil pass0 (pa_cons (pv 0) pa_nil)) pa_nil))))))))), ?_⟩
    obtain ⟨pa, nm, pt, rows, e1, e2, e3, e4, e5⟩ := id la
    obtain ⟨xq, hq, hsq, hdq, bn, hl4, hni, hcase⟩ := heard_data (K := K) ok hp ov
    have lt0 := gt_lot (K := K) ok hp lot ysub
    have nm0 := gt_lot (K := K) (t := nm) ok hp (.inr e3) (.refl _)
    refine ⟨_, rfl, lo, _, rfl, (dget3 e1).2.1, _, rfl, lo, L, rfl, la, ok.p4, fun ar H1 s1 nar ear => ⟨_, _, rfl, ?_⟩⟩
    have p1 : PotA a [a] N H1 := ⟨hp.same s1, fun b hb => by rw [List.mem_singleton.mp hb]; exact (hp.same s1).ne, List.mem_singleton.mpr rfl⟩
    have ara : ar ≠ a := fun z => hp.ne (by rw [← z]; exact nar)
    have la1 := la.same s1
    have ta1 := ta.same s1
    have lt1 := lt0.ext p1.mem (.of s1)
    have nm1 := nm0.ext p1.mem (.of s1)
    have hsq1 : SqT K (hid [a] H1) q xq := sqT_same (hid_same s1) hsq
    have hdq1 : DpAll K (hid [a] H1) xq hq := DpAll.same (hid_same s1) hdq
    have gq1 : GtV K [a] 60 1 4 H1 (.ref q) := ⟨q, hq, rfl, .tup hsq1 hdq1, hl4, hni⟩
    have b60 : ∀ {z : Str}, (z.cps.toList.all (fun c => decide (c < 128)) && decide (z.length ≤ 8)) = true → Nice 60 1 (.str z) := fun h => (b0_nice (b0_word h)).mono (by omega) (by omega)
    have b400 : ∀ {z : Str}, (z.cps.toList.all (fun c => decide (c < 128)) && decide (z.length ≤ 8)) = true → Nice 400 3 (.str z) := fun h => (b0_nice (b0_word h)).mono (by omega) (by omega)
    have lot1 : LotE H1 t ys := LotE.same lot s1
    refine set_wish (K := K) (c := 400) (k := 3) (n := 0) (N := N) (gda_cons (gt_gd (gt_var rfl gq1) (by decide) (by decide)) (gda_cons (gd_list (gt_var rfl gq1) (by decide) (by decide)) (gda_cons (gt_gd (gt_rev (gt_var rfl gq1)) (by decide) (by decide)) (gda_cons (gt_gd (gt_sl (gt_var rfl gq1) cn_no cn_int) (by decide) (by decide))
      (gda_cons (gt_gd (gt_cat (gt_var rfl gq1) (gt_tup (gda_cons (gt_gd (gt_tup (c := 0) (k := 0) gda_nil (by decide)) (by decide) (by decide)) gda_nil) (by decide)) (by decide)) (by decide) (by decide)) (gda_cons (gt_gd (gt_tup (c := 60) (k := 1) (gda_cons (gd_str (b60 (by decide +kernel))) gda_nil) (by decide)) (by decide) (by decide))
        (gda_cons (gt_gd (gt_tup (c := 60) (k := 1) (gda_cons (gd_str (b60 (by decide +kernel))) (gda_cons (gt_gd (gt_tup (c := 0) (k := 0) gda_nil (by decide)) (by decide) (by decide)) gda_nil)) (by decide)) (by decide) (by decide)) gda_nil))))))) p1 (by omega) (by decide) ?_
    intro xs F H2 x2 p2 nF Fa eF xl gl gF
    have mF : F ∈ [F, a] := List.mem_cons_self
    have p2' : PotA a [F, a] N H2 := ⟨p2.pot, fun b hb => by
      rcases List.mem_cons.mp hb with rfl | hb
      · rw [eF]
        exact fun z => by cases z
      · exact p2.ne b hb, List.mem_cons_of_mem _ (List.mem_singleton.mpr rfl)⟩
    have bw : ∀ {H' H'' : Hp}, ExtP a H1 H' → (∀ b o, b ≠ a → b ≠ F → H' b = some o → H'' b = some o) → ExtP a H1 H'' := fun x y b o ba e => y b o ba (fun z => by rw [z, nF] at e; cases e) (x b o ba e)
    refine ext_seq (K := K) (c := 400) (k := 3) (n := 0) (N := N) (gda_cons (gt_gd (gt_tup (c := 60) (k := 1) (gda_cons (gd_str (b60 (by decide +kernel))) gda_nil) (by decide)) (by decide) (by decide)) (gda_cons (gd_str (b400 (by decide +kernel))) (gda_cons gd_non (gda_cons (gt_gd (gt_tup (c := 0) (k := 0) gda_nil (by decide)) (by decide) (by decide)) gda_nil))))
      p2' (by omega) (by decide) rfl Fa mF eF (by omega) gF ?_
    intro vs H3 y3 p3 eF3 vl g3
    have x3 : ExtP a H1 H3 := bw x2 y3
    refine ⟨5, rfl, by decide, by decide, for_range (lo := 0) (n := 5) (fun i σ H' => ∃ (xs : List V) (u8 u9 u10 u11 : Option V), σ = [some (.ref a), some (.ref lo), some (.ref tb), some (.ref t), some (.ref q), some (.ref nm), some (.ref ar), some (.ref F), u8, u9, u10, u11] ∧
      H' F = some (.lst xs) ∧ xs.length = 11 + 7 * i ∧ GdL K [F, a] 400 3 H' xs ∧ PotA a [F, a] (N + 22 * i) H' ∧ ExtP a H1 H') ?_ ?_ ?_⟩
    · exact ⟨_, none, none, none, none, rfl, eF3, by rw [List.length_append, xl, vl], g3, p3, x3⟩
    · rintro i σ H4 i5 ⟨xs4, u8, u9, u10, u11, rfl, eF4, xl4, g4, p4, x4⟩
      have em : (recsL L).map V.str = (vL L.parts.length).map fun v => V.str (stv v) := by unfold recsL; rw [List.map_map]; rfl
      have r16 := recs16 ok
      rw [em] at ear
      have pick : ∀ {i : Nat} {x : V}, ((vL L.parts.length).map fun v => V.str (stv v))[i]? = some x → ∃ v : Vec, v.length = L.parts.length ∧ x = V.str (stv v) := fun {i x} h => by
        rw [List.getElem?_map] at h
        cases z : (vL L.parts.length)[i]? with
        | none => rw [z] at h; cases h
        | some y =>
          rw [z] at h
          exact ⟨y, mem_vL.mp (List.mem_of_getElem? z), (Option.some.inj h).symm⟩
      have ear4 := x4 _ _ ara ear
      have rl : ((vL L.parts.length).map fun v => V.str (stv v)).length = 2 ^ L.parts.length := by rw [List.length_map, vL_len]
      have r2 : 2 ^ L.parts.length ≤ 16 := Nat.pow_le_pow_right (n := 2) (by decide) ok.p4
      have r1 : 0 < 2 ^ L.parts.length := Nat.pow_pos (by decide)
      refine ⟨_, rfl, _, rfl, a, ar, _, _, rfl, p4.pot, by omega, ara, .inl ear4, by omega, by omega, fun j1 y1 H5 hy1 x5 p5 => ?_⟩
      have p5 := p4.ext x5 p5
      refine ⟨_, rfl, _, rfl, a, ar, _, _, rfl, p5.pot, by omega, ara, .inl (x5 _ _ ara ear4), by omega, by omega, fun j2 y2 H6 hy2 x6 p6 => ⟨_, _, rfl, ?_⟩⟩
      have p6 := p5.ext x6 p6
      obtain ⟨v, vl, rfl⟩ := pick hy1
      obtain ⟨u, ul, rfl⟩ := pick hy2
      have x46 := x5.trans x6
      have x16 := x4.trans x46
      have k16 := Keep.ext p1.pot x16
      refine ⟨_, rfl, _, rfl, _, rfl, _, rfl, _, rfl, lo, tb, t, L, ys, v, u, rfl, la1.keep k16, ok, ta1.ext ok p1.pot x16, (LotE.keep lot1 k16).sq, vl, ul, fun p H7 s7 ep => ?_⟩
      have k17 : Keep H6 H7 := .of s7
      have x47 := x46.trans (.of s7)
      have x17 : ExtP a H1 H7 := x4.trans x47
      have p7 := p6.same s7
      have eF7 := x47 _ _ Fa eF4
      have g7 := g4.ext p4.mem x47
      have ma : a ∈ [F, a] := List.mem_cons_of_mem _ (List.mem_singleton.mpr rfl)
      have pF : p ∉ [F, a] := fun h => by
        rcases List.mem_cons.mp h with rfl | h
        · rw [ep] at eF7
          cases eF7
        · rw [List.mem_singleton.mp h] at ep
          obtain ⟨_, _, _, z, _⟩ := p7.pot
          rw [z] at ep
          cases ep
      have nSt : ∀ {v : Vec}, v.length = L.parts.length → Nice 60 1 (.str (stv v)) := fun h => (b0_nice (b0_stv ok h)).mono (by omega) (by omega)
      have gS : ∀ {v : Vec} (_ : v.length = L.parts.length) (H' : Hp), GdV K [F, a] 60 1 H' (.str (stv v)) := fun h _ => ⟨_, .str _, nSt h⟩
      have go7 : GtV K [F, a] 8 0 6 H7 (.ref p) := by
        refine ⟨p, strsD (apartL L ys v u), rfl, .tup (SqT.of (by rw [hid_ne pF]; exact ep)) (dp_strs _), ?_, fun d hd => ?_⟩
        · have h1 := (apart_sub L ys v u).length_le
          rw [List.length_map] at h1
          have h2 := ok.k6
          have e : (strsD (apartL L ys v u)).length = (apartL L ys v u).length := by unfold strsD; rw [List.length_map]
          omega
        · obtain ⟨z, hz, rfl⟩ := List.mem_map.mp hd
          have := asc_names ok ((apart_sub L ys v u).subset hz)
          exact Nice.str (asc_ok this.1) this.2
      refine ext_seq (K := K) (c := 400) (k := 3) (n := 0) (N := N + 22 * i + 1 + 1) (gda_cons (gt_gd (gt_tup (c := 60) (k := 1) (gda_cons (gd_str (b60 (by decide +kernel))) (gda_cons (gd_var rfl (gS vl _)) (gda_cons (gd_var rfl (gS ul _)) (gda_cons (gt_gd (gt_var rfl go7) (by decide) (by decide)) gda_nil)))) (by decide)) (by decide) (by decide))
        (gda_cons (gt_gd (gt_tup (c := 60) (k := 1) (gda_cons (gd_str (b60 (by decide +kernel))) (gda_cons (gd_var rfl (gS vl _)) (gda_cons (gd_var rfl (gS ul _)) (gda_cons (gt_gd (gt_sl (gt_var rfl go7) cn_int cn_no) (by decide) (by decide)) gda_nil)))) (by decide)) (by decide) (by decide))
        (gda_cons (gt_gd (gt_tup (c := 60) (k := 1) (gda_cons (gd_str (b60 (by decide +kernel))) (gda_cons (gd_var rfl (gS ul _)) (gda_cons (gd_var rfl (gS vl _)) (gda_cons (gt_gd (gt_rev (gt_var rfl go7)) (by decide) (by decide)) gda_nil)))) (by decide)) (by decide) (by decide)) gda_nil)))
        p7 (by omega) (by decide) rfl Fa mF eF7 (by omega) g7 ?_
      intro vs1 H8 y8 p8 eF8 vl8 g8
      have x18 := bw x17 y8
      have go8 := gt_but ma mF go7 y8
      have lt8 := gt_add nF x18 lt1
      have hn8 : SqT K (hid [F, a] H8) nm ((L.kps.map (·.1)).map V.str) := by
        obtain ⟨q0, ds0, e0, d0, _⟩ := gt_add nF x18 nm1
        have e3s := (e3.same s1)
        obtain ⟨ob, e, r⟩ := e3s
        refine .inl (.inr ⟨ob, ?_⟩)
        have : hid [a] H1 nm = some (.frz ob (.tup ((L.kps.map (·.1)).map V.str))) := hid_one p1.pot e fun _ z => by cases z
        exact hid_add nF x18 _ _ this
      have nma : nm ≠ a := fun z => by
        obtain ⟨ob, e, _⟩ := e3
        obtain ⟨_, _, _, h, _⟩ := hp
        rw [z, h] at e
        cases e
      refine ext_seq (K := K) (c := 400) (k := 3) (N := N + 22 * i + 1 + 1 + 0) (gda_cons (gt_gd (gt_tup (c := 60) (k := 1) (gda_cons (gd_str (b60 (by decide +kernel))) (gda_cons (gd_var rfl (gS vl _)) (gda_cons (gd_var rfl (gS ul _)) (gda_cons (gt_gd (gt_var rfl lt8) (by decide) (by decide)) gda_nil)))) (by decide)) (by decide) (by decide))
        (gda_cons (gt_gd (gt_tup (c := 60) (k := 1) (gda_cons (gd_str (b60 (by decide +kernel))) (gda_cons (gd_var rfl (gS vl _)) (gda_cons (gd_var rfl (gS ul _)) (gda_cons (gt_gd (gd_alot rfl rfl hn8 nma ok.kn (by rw [List.length_map]; exact ok.k6) (nmOk ok).ok) (by decide) (by decide)) gda_nil)))) (by decide)) (by decide) (by decide)) gda_nil))
        p8 (by omega) (by decide) rfl Fa mF eF8 (by rw [List.length_append]; omega) g8 ?_
      intro vs2 H9 y9 p9 eF9 vl9 g9
      have x19 := bw x18 y9
      have go9 := gt_but ma mF go8 y9
      have l0 : (stv v).length + ("0" : Str).length ≤ sizeLine := by
        rw [sizeLine_eq]
        have h2 := (stv_nice ok vl).2
        have h1 : ("0" : Str).length = 1 := by decide +kernel
        omega
      have n0 : Nice 60 1 (.str (stv v ++ "0")) := (Nice.str (n := 9) (asc_ok (asc_app (asc_stv v) (by unfold ascB; decide +kernel))) (by
        show ((stv v).cps ++ ("0" : Str).cps).size ≤ 9
        rw [Array.size_append]
        have h1 : ("0" : Str).cps.size = 1 := by decide +kernel
        have h2 : (stv v).cps.size ≤ 4 := (stv_nice ok vl).2
        omega)).mono (by omega) (by omega)
      refine ext_one (K := K) (c := 400) (k := 3) (n := 0) (gda_cons (gt_gd (gt_tup (c := 60) (k := 1) (gda_cons (gd_str (b60 (by decide +kernel))) (gda_cons (gd_var rfl (gS vl _)) (gda_cons (gd_var rfl (gS ul _)) (gda_cons (gt_gd (gt_var rfl go9) (by decide) (by decide)) gda_nil)))) (by decide)) (by decide) (by decide))
        (gda_cons (gt_gd (gt_tup (c := 60) (k := 1) (gda_cons (gd_str (b60 (by decide +kernel))) (gda_cons (gd_add rfl l0 n0) (gda_cons (gd_var rfl (gS ul _)) (gda_cons (gt_gd (gt_var rfl go9) (by decide) (by decide)) gda_nil)))) (by decide)) (by decide) (by decide)) gda_nil))
        p9 (by omega) (by decide) rfl Fa mF eF9 (by rw [List.length_append, List.length_append]; omega) g9 ?_
      intro vs3 Ha ya pa' eFa vla ga
      exact ⟨_, _, _, _, _, rfl, eFa, by rw [List.length_append, List.length_append, List.length_append]; omega, ga, pa'.mono (by omega), bw x19 ya⟩
    · rintro σ H4 ⟨xs4, u8, u9, u10, u11, rfl, eF4, xl4, g4, p4, x4⟩
      have ma : a ∈ [F, a] := List.mem_cons_of_mem _ (List.mem_singleton.mpr rfl)
      have hs4 : SqT K (hid [F, a] H4) q xq := sqT_same (hid_add nF x4) hsq1
      rcases hcase with rfl | ⟨v1, v2, d, rfl, gv1, gv2, gvd⟩
      · refine ⟨_, rfl, q, _, _, _, rfl, rfl, sqT_same hid_sub hs4, atI_nat (j := 0) rfl, rfl, _, rfl, iteB (by decide +kernel) ?_⟩
        refine ⟨_, rfl, 6, rfl, by decide, by decide, fun D nD => ?_⟩
        have D1 : H1 D = none := by
          cases z : H1 D with
          | none => rfl
          | some o => rw [x4 _ _ (p4.nea nD) z] at nD; cases nD
        have DF : D ≠ F := fun z => by rw [z, eF4] at nD; cases nD
        refine lc_it (walk_range (n := 6)) (fun j H => ∃ ts : List V, H D = some (.lst ts) ∧ ts.length = j ∧ GdL K [D, a] (cB 3) 3 H ts ∧ PotA a [D, a] (N + 110 + 6 * j) H ∧ ExtP a H4 H) ?_ (fun _ _ _ _ => trivial) ?_ ?_
        · refine ⟨[], upd_same, rfl, (fun v hv => by cases hv), ⟨(p4.same (same_new nD)).pot.mono (by omega), fun b hb => ?_, List.mem_cons_of_mem _ (List.mem_singleton.mpr rfl)⟩, .of (same_new nD)⟩
          rcases List.mem_cons.mp hb with rfl | hb
          · rw [upd_same]
            exact fun z => by cases z
          · rw [List.mem_singleton.mp hb]
            exact (p4.same (same_new nD)).pot.ne
        · rintro j y Ha Ha' hj ⟨ts, eD, tl, gt, pa', xa⟩ hy
          obtain ⟨rfl, rfl⟩ := hy
          have gqa := gt_add D1 (x4.trans xa) gq1
          have hsa : SqT K (hid [D, a] _) q _ := sqT_same (hid_add D1 (x4.trans xa)) hsq1
          have hda : DpAll K (hid [D, a] _) _ hq := DpAll.same (hid_add D1 (x4.trans xa)) hdq1
          refine ⟨rfl, _, rfl, _, rfl, a, [D, a], .ref q, .tuple hq, _, rfl, pa', by omega, by decide, .tup hsa hda, bn, fun u e Hb xb pb db nb => ?_⟩
          have Da : D ≠ a := p4.nea nD
          have eDb := xb _ _ Da eD
          refine ⟨ts, eDb, by rw [sizeLine_eq]; omega, ts ++ [u], upd_same, by simp [tl], fun v hv => ?_, ⟨?_, fun b hb e => ?_, pb.mem⟩, fun b o ba e => ?_⟩
          · have hm : D ∈ [D, a] := List.mem_cons_self
            have : GdV K [D, a] (cB 3) 3 Hb v := (List.mem_append.mp hv).elim (fun h => (gt v h).ext pa'.mem xb) fun h => by rw [List.mem_singleton.mp h]; exact ⟨e, db, nb⟩
            obtain ⟨d, h1, h2⟩ := this
            exact ⟨d, Dp.same (hid_upd hm) h1, h2⟩
          · obtain ⟨o, b, c, e, r⟩ := pb.pot.mono (show N + 110 + 6 * j + 2 * 3 ≤ N + 110 + 6 * (j + 1) by omega)
            exact ⟨o, b, c, by rw [upd_ne Da.symm]; exact e, r⟩
          · by_cases z : b = D
            · subst z
              rw [upd_same] at e
              cases e
            · rw [upd_ne z] at e
              exact pb.ne b hb e
          · rw [upd_ne (ne_of_none e nD)]
            exact xb _ _ ba (xa _ _ ba e)
        rintro Ha ⟨ts, eD, tl, gt, pa', xa⟩
        have Da : D ≠ a := p4.nea nD
        have eFa := xa _ _ Fa eF4
        have gFa : ∀ v ∈ xs4, GdV K [a] 400 3 Ha v := fun v hv => (g4.ext p4.mem xa v hv).weak
        have gDa : ∀ v ∈ ts, GdV K [a] (cB 3) 3 Ha v := fun v hv => (gt v hv).weak
        refine ⟨F, D, _, _, rfl, rfl, eFa, eD, by rw [sizeLine_eq]; omega, fun R1 nR1 => ?_⟩
        have sR := same_new (o := HO.lst (xs4 ++ ts)) nR1
        have eR1 := upd_same (H := Ha) (a := R1) (o := HO.lst (xs4 ++ ts))
        have R1a : R1 ≠ a := pa'.nea nR1
        have pR := pa'.same sR
        generalize upd Ha R1 (.lst (xs4 ++ ts)) = Hr at sR eR1 pR ⊢
        refine ⟨_, rfl, a, _, rfl, pR.pot, by omega, fun v d Hc hd xc pc dw => ⟨few_ok rfl, fun l nl => ?_⟩⟩
        have okR : OkA [a] Hr := fun b hb => by rw [List.mem_singleton.mp hb]; exact pR.pot.ne
        obtain ⟨e, ve⟩ := odd_vd (K := K) okR hd dw
        have s5 : Same Hc (upd Hc l (.lst [v])) := same_new nl
        refine ⟨R1, l, _, _, rfl, rfl, s5 _ _ (xc _ _ R1a eR1), upd_same, by rw [sizeLine_eq, List.length_append]; simp; omega, fun R nR => ?_⟩
        have s6 := s5.trans (same_new (o := HO.lst (xs4 ++ ts ++ [v])) nR)
        have xfin : ExtP a H4 (upd (upd Hc l (.lst [v])) R (.lst (xs4 ++ ts ++ [v]))) := xa.trans ((ExtP.of sR).trans (xc.trans (.of s6)))
        have ma : a ∈ [a] := List.mem_singleton.mpr rfl
        have toV : ∀ {c' : Nat} {x : V}, c' ≤ 100000 → GdV K [a] c' 3 Ha x → ∃ d, VD K (hid [a] (upd (upd Hc l (.lst [v])) R (.lst (xs4 ++ ts ++ [v])))) x d := fun hc' ⟨d, h1, h2⟩ => ⟨d, .inl ⟨Dp.same (hid_ext ma ((ExtP.of sR).trans (xc.trans (.of s6)))) h1, h2.mono hc' (by decide)⟩⟩
        refine k R _ _ ((ExtP.of s1).trans (x4.trans xfin)) ((pc.same s6).mono (by omega)) (fun z => (pc.same s5).ne (by rw [← z]; exact nR)) upd_same (by simp; omega) fun x hx => ?_
        rcases List.mem_append.mp hx with hx | hx
        · rcases List.mem_append.mp hx with hx | hx
          · exact toV (by decide) (gFa x hx)
          · exact toV (by decide) (gDa x hx)
        · rw [List.mem_singleton.mp hx]
          exact ⟨e, ve.same (hid_same s6)⟩
      · refine ⟨_, rfl, q, _, _, _, rfl, rfl, sqT_same hid_sub hs4, atI_nat (j := 0) rfl, rfl, _, rfl, iteA (by decide +kernel) ?_⟩
        have gq4 := gt_add nF x4 gq1
        have w1 := gd_add' nF x4 (gv1.ext p1.mem (.of s1))
        have w2 := gd_add' nF x4 (gv2.ext p1.mem (.of s1))
        have w3 := gt_add nF x4 (gvd.ext p1.mem (.of s1))
        refine ext_seq (K := K) (c := 400) (k := 3) (n := 0) (gda_cons (gt_gd (gt_tup (c := 60) (k := 1) (gda_cons (gd_str (b60 (by decide +kernel))) (gda_cons (gd_ix (j := 2) rfl hs4 rfl w2) (gda_cons (gd_ix (j := 1) rfl hs4 rfl w1) (gda_cons (gt_gd (gt_ix (j := 3) rfl hs4 rfl w3) (by decide) (by decide)) gda_nil)))) (by decide)) (by decide) (by decide))
          (gda_cons (gt_gd (gt_tup (c := 60) (k := 1) (gda_cons (gd_str (b60 (by decide +kernel))) (gda_cons (gd_ix (j := 1) rfl hs4 rfl w1) (gda_cons (gd_ix (j := 1) rfl hs4 rfl w1) (gda_cons (gt_gd (gt_ix (j := 3) rfl hs4 rfl w3) (by decide) (by decide)) gda_nil)))) (by decide)) (by decide) (by decide)) gda_nil))
          p4 (by omega) (by decide) rfl Fa mF eF4 (by omega) g4 ?_
        intro vs1 H5 y5 p5 eF5 vl5 g5
        have x5 := bw x4 y5
        have gq5 := gt_add nF x5 gq1
        have hs5 : SqT K (hid [F, a] H5) q _ := sqT_same (hid_add nF x5) hsq1
        have w35 := gt_add nF x5 (gvd.ext p1.mem (.of s1))
        have nm5 := gt_add nF x5 nm1
        refine ext_one (K := K) (c := 400) (k := 3) (n := 0) (gda_cons (gt_gd (gt_cat (gt_cat (gt_tup (c := 60) (k := 1) (gda_cons (gd_str (b60 (by decide +kernel))) gda_nil) (by decide)) (gt_sl (gt_var rfl gq5) cn_int cn_int) (by decide)) (gt_tup (gda_cons (gd_list (gt_ix (j := 3) rfl hs5 rfl w35) (by decide) (by decide)) gda_nil) (by decide)) (by decide)) (by decide) (by decide))
          (gda_cons (gt_gd (gt_cat (gt_cat (gt_tup (c := 60) (k := 1) (gda_cons (gd_str (b60 (by decide +kernel))) gda_nil) (by decide)) (gt_sl (gt_var rfl gq5) cn_int cn_int) (by decide)) (gt_tup (gda_cons (gt_gd (gt_var rfl nm5) (by decide) (by decide)) gda_nil) (by decide)) (by decide)) (by decide) (by decide)) gda_nil))
          p5 (by omega) (by decide) rfl Fa mF eF5 (by rw [List.length_append]; omega) g5 ?_
        intro vs2 H6 y6 p6 eF6 vl6 g6
        have x6 := bw x5 y6
        obtain ⟨X6, hX6⟩ : ∃ X, X = xs4 ++ vs1 ++ vs2 := ⟨_, rfl⟩
        rw [← hX6] at eF6 g6
        have X6l : X6.length ≤ 60 := by rw [hX6, List.length_append, List.length_append]; omega
        clear hX6
        refine ⟨_, rfl, 6, rfl, by decide, by decide, fun D nD => ?_⟩
        have D1 : H1 D = none := by
          cases z : H1 D with
          | none => rfl
          | some o => rw [x6 _ _ (p6.nea nD) z] at nD; cases nD
        have DF : D ≠ F := fun z => by rw [z, eF6] at nD; cases nD
        refine lc_it (walk_range (n := 6)) (fun j H => ∃ ts : List V, H D = some (.lst ts) ∧ ts.length = j ∧ GdL K [D, a] (cB 3) 3 H ts ∧ PotA a [D, a] (N + 110 + 6 * j) H ∧ ExtP a H6 H) ?_ (fun _ _ _ _ => trivial) ?_ ?_
        · refine ⟨[], upd_same, rfl, (fun v hv => by cases hv), ⟨(p6.same (same_new nD)).pot.mono (by omega), fun b hb => ?_, List.mem_cons_of_mem _ (List.mem_singleton.mpr rfl)⟩, .of (same_new nD)⟩
          rcases List.mem_cons.mp hb with rfl | hb
          · rw [upd_same]
            exact fun z => by cases z
          · rw [List.mem_singleton.mp hb]
            exact (p6.same (same_new nD)).pot.ne
        · rintro j y Ha Ha' hj ⟨ts, eD, tl, gt, pa', xa⟩ hy
          obtain ⟨rfl, rfl⟩ := hy
          have gqa := gt_add D1 (x6.trans xa) gq1
          have hsa : SqT K (hid [D, a] _) q _ := sqT_same (hid_add D1 (x6.trans xa)) hsq1
          have hda : DpAll K (hid [D, a] _) _ hq := DpAll.same (hid_add D1 (x6.trans xa)) hdq1
          refine ⟨rfl, _, rfl, _, rfl, a, [D, a], .ref q, .tuple hq, _, rfl, pa', by omega, by decide, .tup hsa hda, bn, fun u e Hb xb pb db nb => ?_⟩
          have Da : D ≠ a := p6.nea nD
          have eDb := xb _ _ Da eD
          refine ⟨ts, eDb, by rw [sizeLine_eq]; omega, ts ++ [u], upd_same, by simp [tl], fun v hv => ?_, ⟨?_, fun b hb e => ?_, pb.mem⟩, fun b o ba e => ?_⟩
          · have hm : D ∈ [D, a] := List.mem_cons_self
            have : GdV K [D, a] (cB 3) 3 Hb v := (List.mem_append.mp hv).elim (fun h => (gt v h).ext pa'.mem xb) fun h => by rw [List.mem_singleton.mp h]; exact ⟨e, db, nb⟩
            obtain ⟨d, h1, h2⟩ := this
            exact ⟨d, Dp.same (hid_upd hm) h1, h2⟩
          · obtain ⟨o, b, c, e, r⟩ := pb.pot.mono (show N + 110 + 6 * j + 2 * 3 ≤ N + 110 + 6 * (j + 1) by omega)
            exact ⟨o, b, c, by rw [upd_ne Da.symm]; exact e, r⟩
          · by_cases z : b = D
            · subst z
              rw [upd_same] at e
              cases e
            · rw [upd_ne z] at e
              exact pb.ne b hb e
          · rw [upd_ne (ne_of_none e nD)]
            exact xb _ _ ba (xa _ _ ba e)
        rintro Ha ⟨ts, eD, tl, gt, pa', xa⟩
        have Da : D ≠ a := p6.nea nD
        have eFa := xa _ _ Fa eF6
        have gFa : ∀ v ∈ X6, GdV K [a] 400 3 Ha v := fun v hv => (g6.ext p6.mem xa v hv).weak
        have gDa : ∀ v ∈ ts, GdV K [a] (cB 3) 3 Ha v := fun v hv => (gt v hv).weak
        refine ⟨F, D, _, _, rfl, rfl, eFa, eD, by rw [sizeLine_eq]; omega, fun R1 nR1 => ?_⟩
        have sR := same_new (o := HO.lst (X6 ++ ts)) nR1
        have eR1 := upd_same (H := Ha) (a := R1) (o := HO.lst (X6 ++ ts))
        have R1a : R1 ≠ a := pa'.nea nR1
        have pR := pa'.same sR
        generalize upd Ha R1 (.lst (X6 ++ ts)) = Hr at sR eR1 pR ⊢
        refine ⟨_, rfl, a, _, rfl, pR.pot, by omega, fun v d Hc hd xc pc dw => ⟨few_ok rfl, fun l nl => ?_⟩⟩
        have okR : OkA [a] Hr := fun b hb => by rw [List.mem_singleton.mp hb]; exact pR.pot.ne
        obtain ⟨e, ve⟩ := odd_vd (K := K) okR hd dw
        have s5 : Same Hc (upd Hc l (.lst [v])) := same_new nl
        refine ⟨R1, l, _, _, rfl, rfl, s5 _ _ (xc _ _ R1a eR1), upd_same, by rw [sizeLine_eq, List.length_append]; simp; omega, fun R nR => ?_⟩
        have s6 := s5.trans (same_new (o := HO.lst (X6 ++ ts ++ [v])) nR)
        have xfin : ExtP a H6 (upd (upd Hc l (.lst [v])) R (.lst (X6 ++ ts ++ [v]))) := xa.trans ((ExtP.of sR).trans (xc.trans (.of s6)))
        have ma : a ∈ [a] := List.mem_singleton.mpr rfl
        have toV : ∀ {c' : Nat} {x : V}, c' ≤ 100000 → GdV K [a] c' 3 Ha x → ∃ d, VD K (hid [a] (upd (upd Hc l (.lst [v])) R (.lst (X6 ++ ts ++ [v])))) x d := fun hc' ⟨d, h1, h2⟩ => ⟨d, .inl ⟨Dp.same (hid_ext ma ((ExtP.of sR).trans (xc.trans (.of s6)))) h1, h2.mono hc' (by decide)⟩⟩
        refine k R _ _ ((ExtP.of s1).trans (x6.trans xfin)) ((pc.same s6).mono (by omega)) (fun z => (pc.same s5).ne (by rw [← z]; exact nR)) upd_same (by simp; omega) fun x hx => ?_
        rcases List.mem_append.mp hx with hx | hx
        · rcases List.mem_append.mp hx with hx | hx
          · exact toV (by decide) (gFa x hx)
          · exact toV (by decide) (gDa x hx)
        · rw [List.mem_singleton.mp hx]
          exact ⟨e, ve.same (hid_same s6)⟩
end
end K6
set_option Elab.async false
set_option linter.all false
set_option maxRecDepth 100000
set_option maxHeartbeats 2000000
set_option pp.maxSteps 1200
set_option pp.deepTerms false
namespace K6
open PySem PySem.Spec PyProof.Rows L2 Lk
abbrev sRight : Stmt := top 92
theorem iteV {b : Bool} {t e : TE} {σ : L2.St} {H : Hp} {Q : VK} (R : VK) (rest : ∀ x H', R x H' → Q x H') (h1 : ∀ Q' : VK, (∀ x H', R x H' → Q' x H') → b = true → t σ H Q') (h2 : ∀ Q' : VK, (∀ x H', R x H' → Q' x H') → b = false → e σ H Q') :
    if b = true then t σ H Q else e σ H Q := by
  cases hb : b with
  | true => exact iteT (h1 Q rest hb)
  | false => exact iteB rfl (h2 Q rest hb)
theorem ShAt.keep {H H' : Hp} {C CS x : Addr} {L : Lore} (h : ShAt H C CS x L) (k : Keep H H') : ShAt H' C CS x L := by
  obtain ⟨dx, fs, e, ⟨⟨pa, p1, p2⟩, ⟨c, c1, c2⟩, ⟨q, q1, q2⟩⟩, tx, p, ts, lp, ep, pr, D, kvs, lD, eD, vD⟩ := h
  have tk : Tups H H' := fun b xs h => k b _ h fun xs z => by cases z
  refine ⟨dx, fs, k _ _ e (fun xs z => by cases z), ⟨⟨pa, p1, p2.keep k⟩, ⟨c, c1, ?_⟩, ⟨q, q1, q2.tups tk⟩⟩, tx, p, ts, lp, tk _ _ ep, Paired.mapP pr fun v s r => RelS.keep _ _ _ _ k r, D, kvs, lD, k _ _ eD (fun xs z => by cases z), vD⟩
  obtain ⟨cd, nm, e1, t⟩ := c2
  exact ⟨cd, nm, k _ _ e1 (fun xs z => by cases z), t.keep k⟩
section
variable {P : Program} {w : World} {K : PySem.W.Frag} {mg : Str → Option Value} {base : Heap} {f : Addr} {fd : FuncData}
def spRight : Sp := fun vs H Q _ => ∃ (a : Addr) (N : Nat), vs = [.ref a] ∧ PotAt a N H ∧ N ≤ 5000 ∧ ∀ H', ExtP a H H' → PotAt a (N + 1000) H' → Q (.bl true) H'
abbrev nmR : List Str := ["pot", "lore", "table", "shelf", "lap", "lot", "bound", "heard", "far", "value", "due"]
theorem scRight : FnScope nmR ["pot"] (defScope sRight) := ⟨rfl, rfl, rfl, by decide +kernel, rfl, by decide +kernel, by decide +kernel⟩
theorem ok_right {C CS fTh fTx fS fAL fOf fRw fTk fNe fLo fSh fOv : Addr} {dTh dTx dS dAL dOf dRw dTk dNe dLo dSh dOv : FuncData} (F : Fun K "_law_right" "_law_right" sRight f fd) (T : Bl mg) (SC : ShC K CS fS) (mS : mg "Shelf" = some (.ref CS))
    (GTh : FnOk P w K mg base CX0 5 fTh dTh ["pot", "few", "upmost", "most_parts"] spThick) (aTh : At K mg "_law_thick_shelf" fTh dTh ["pot", "few", "upmost", "most_parts"])
    (GTx : FnOk P w K mg base CX0 1 fTx dTx ["lore"] spText) (aTx : At K mg "_law_shelf_text" fTx dTx ["lore"])
    (GS : FnOk P w K mg base CX0 6 fS dS ["self", "text"] (spShelfI C CS)) (bS : Binds K dS ["self", "text"] [])
    (GAL : FnOk P w K mg base CX0 3 fAL dAL ["pot", "names", "few"] (spALot K)) (aAL : At K mg "_law_a_lot" fAL dAL ["pot", "names", "few"])
    (GOf : FnOk P w K mg base CX0 2 fOf dOf ["pot", "some"] (spOfA K)) (aOf : At K mg "_law_of" fOf dOf ["pot", "some"])
    (GRw : FnOk P w K mg base CX0 3 fRw dRw ["lore"] spRows) (aRw : At K mg "_law_answer_rows" fRw dRw ["lore"])
    (GTk : FnOk P w K mg base CX0 1 fTk dTk ["pot", "upto"] spTake) (aTk : At K mg "_law_take" fTk dTk ["pot", "upto"])
    (GNe : FnOk P w K mg base CX0 7 fNe dNe ["pot", "lore", "table", "lot", "heard"] (spNear K)) (aNe : At K mg "_law_near" fNe dNe ["pot", "lore", "table", "lot", "heard"])
    (GLo : FnOk P w K mg base CX0 4 fLo dLo ["lore", "table", "lot", "bound", "value"] (spLOverV K)) (aLo : At K mg "_law_is_overruled" fLo dLo ["lore", "table", "lot", "bound", "value"])
    (GSh : FnOk P w K mg base CX0 7 fSh dSh ["shelf", "lot", "bound", "value"] (spShowsV K C CS)) (aSh : At K mg "shows_overruled" fSh dSh ["shelf", "lot", "bound", "value"])
    (GOv : FnOk P w K mg base CX0 8 fOv dOv ["shelf", "lot", "bound"] (spOver C CS)) (aOv : At K mg "overruled" fOv dOv ["shelf", "lot", "bound"]) :
    FnG P w K mg base 9 f fd ["pot"] spRight := by
  refine FnG.of F scRight (fun vs H Q h => ?_) (fun cdv A outer s H vs Q hr hG h => ?_)
  · obtain ⟨a, N, rfl, _⟩ := h
    rfl
  · obtain ⟨a, N, rfl, hp, hN, k⟩ := h
    have nd := scRight.nd
    have hu := hu_of hr
    have hu64 := room64 hr
    have hr1 : Room 1 _ := hr.mono (by decide)
    have hr2 : Room 2 _ := hr.mono (by decide)
    have hr3 : Room 3 _ := hr.mono (by decide)
    have hr4 : Room 4 _ := hr.mono (by decide)
    have hr5 : Room 5 _ := hr.mono (by decide)
    have hr7 : Room 7 _ := hr.mono (by decide)
    have hr8 : Room 8 _ := hr.mono (by decide)
    refine ⟨_, pss_cons (ps_set (i := 1) nd rfl (.inl rfl) (pe_call GTh hr5 (by rfl) aTh.m aTh.kp aTh.b .nil pass0 (pa_cons (pv 0) (pa_cons pe_int (pa_cons (pe_call GOf hr2 (by rfl) aOf.m aOf.kp aOf.b .nil pass0 (pa_cons (pv 0) (pa_cons (pe_lst (pa_cons pe_int (pa_cons pe_int (pa_cons pe_int pa_nil)))) pa_nil)))
          (pa_cons (pe_call GOf hr2 (by rfl) aOf.m aOf.kp aOf.b .nil pass0 (pa_cons (pv 0) (pa_cons (pe_lst (pa_cons pe_int (pa_cons pe_int (pa_cons pe_int pa_nil)))) pa_nil))) pa_nil))))))
      (pss_cons (ps_par (i := 2) (j := 3) rfl nd rfl rfl (by decide) rfl rfl (by exact (pa_cons (pe_call GRw hr3 (by rfl) aRw.m aRw.kp aRw.b .nil pass0 (pa_cons (pv 1) pa_nil))
            (pa_cons (pe_make SC.mkr GS hr7 (by rfl) mS bS .nil pass0 (pa_cons (pe_call GTx hr1 (by rfl) aTx.m aTx.kp aTx.b .nil pass0 (pa_cons (pv 1) pa_nil)) pa_nil)) pa_nil))) rfl)
      (pss_cons (ps_for PassesOwn.never rfl (pi_range1 (by rfl) T.range (pa_cons pe_int pa_nil)) (pg_name (i := 4) nd rfl (.inl rfl))
          (pss_cons (ps_par (i := 5) (j := 6) rfl nd rfl rfl (by decide) rfl rfl (by exact (pa_cons (pe_call GAL hr3 (by rfl) aAL.m aAL.kp aAL.b .nil pass0 (pa_cons (pv 0) (pa_cons (pe_dget hu (pv 1) pe_str (fun _ _ => rfl)) (pa_cons pe_int pa_nil))))
              (pa_cons (pe_call GOf hr2 (by rfl) aOf.m aOf.kp aOf.b .nil pass0 (pa_cons (pv 0) (pa_cons (pe_lst (pa_cons pe_int (pa_cons pe_int (pa_cons pe_int (pa_cons pe_int (pa_cons pe_int pa_nil)))))) pa_nil))) pa_nil))) rfl)
          (pss_cons (ps_set (i := 5) nd rfl (.inl rfl) (pe_ifExp (pt_cmpR op_eq (pe_call GTk hr1 (by rfl) aTk.m aTk.kp aTk.b .nil pass0 (pa_cons (pv 0) (pa_cons pe_int pa_nil))) pe_int (nomark _)) (pe_dget hu (pv 1) pe_str (fun _ _ => rfl)) (pv 5)))
          (pss_cons (ps_par (i := 7) (j := 8) rfl nd rfl rfl (by decide) rfl rfl (by exact (pa_cons (pe_call GOv hr8 (by rfl) aOv.m aOv.kp aOv.b .nil pass0 (pa_cons (pv 3) (pa_cons (pv 5) (pa_cons (pv 6) pa_nil))))
              (pa_cons (pe_call GOv hr8 (by rfl) aOv.m aOv.kp aOv.b .nil pass0 (pa_cons (pv 3) (pa_cons (pe_dget hu (pv 1) pe_str (fun _ _ => rfl)) (pa_cons (pe_call GOf hr2 (by rfl) aOf.m aOf.kp aOf.b .nil pass0 (pa_cons (pv 0) (pa_cons (pe_lst (pa_cons pe_int (pa_cons pe_int (pa_cons pe_int pa_nil)))) pa_nil))) pa_nil)))) pa_nil))) rfl)
          (pss_one (ps_for PassesOwn.never rfl (pi_list (pe_op op_cat (pe_call GNe hr7 (by rfl) aNe.m aNe.kp aNe.b .nil pass0 (pa_cons (pv 0) (pa_cons (pv 1) (pa_cons (pv 2) (pa_cons (pv 5) (pa_cons (pv 7) pa_nil)))))) (pe_lst (pa_cons (pv 8) pa_nil)))) (pg_name (i := 9) nd rfl (.inl rfl))
              (pss_cons (ps_set (i := 10) nd rfl (.inl rfl) (pe_call GLo hr4 (by rfl) aLo.m aLo.kp aLo.b .nil pass0 (pa_cons (pv 1) (pa_cons (pv 2) (pa_cons (pv 5) (pa_cons (pv 6) (pa_cons (pv 9) pa_nil)))))))
              (pss_one (ps_if (pt_cmpR op_ne (pe_callB (call_reprD hG hu64) (by rfl) T.repr PyProof.Rows.boot_repr (pa_cons (pe_call GSh hr7 (by rfl) aSh.m aSh.kp aSh.b .nil pass0 (pa_cons (pv 3) (pa_cons (pv 5) (pa_cons (pv 6) (pa_cons (pv 9) pa_nil))))) pa_nil)) (pe_callB (call_reprD hG hu64) (by rfl) T.repr PyProof.Rows.boot_repr (pa_cons (pv 10) pa_nil)) (nomark _)) pss_no pss_nil)))))))))
      (pss_one (ps_ret pe_bl)))), ?_⟩
    have few : ∀ {c : Int} {x : V} {i : Nat}, [V.int 5, V.int 5, V.int 6][i]? = some x → ∃ m : Int, 5 ≤ m ∧ m ≤ 6 ∧ x = .int m := fun {c x i} h => by
      match i, h with
      | 0, h => exact ⟨5, by decide, by decide, (Option.some.inj h).symm⟩
      | 1, h => exact ⟨5, by decide, by decide, (Option.some.inj h).symm⟩
      | 2, h => exact ⟨6, by decide, by decide, (Option.some.inj h).symm⟩
      | _ + 3, h => simp at h
    refine ⟨_, rfl, _, rfl, few_ok rfl, fun l0 nl0 => ⟨a, l0, _, [.int 5, .int 5, .int 6], rfl, hp.same (same_new nl0), by omega, fun z => hp.ne (by rw [← z]; exact nl0), .inl upd_same, by decide, by decide, fun i0 y0 H0 hy0 x0 p0 => ?_⟩⟩
    obtain ⟨mu, mu5, mu6, rfl⟩ := few (c := 0) hy0
    have X0 : ExtP a H H0 := (ExtP.of (same_new nl0)).trans x0
    refine ⟨_, rfl, few_ok rfl, fun l1 nl1 => ⟨a, l1, _, [.int 2, .int 3, .int 4], rfl, p0.same (same_new nl1), by omega, fun z => p0.ne (by rw [← z]; exact nl1), .inl upd_same, by decide, by decide, fun i1 y1 H1 hy1 x1 p1 => ?_⟩⟩
    obtain ⟨mp, mp1, mp4, rfl⟩ : ∃ m : Int, 1 ≤ m ∧ m ≤ 4 ∧ y1 = .int m := by
      match i1, hy1 with
      | 0, h => exact ⟨2, by decide, by decide, (Option.some.inj h).symm⟩
      | 1, h => exact ⟨3, by decide, by decide, (Option.some.inj h).symm⟩
      | 2, h => exact ⟨4, by decide, by decide, (Option.some.inj h).symm⟩
      | _ + 3, h => simp at h
    have X1 : ExtP a H H1 := X0.trans ((ExtP.of (same_new nl1)).trans x1)
    refine ⟨a, 2, mu, mp, _, rfl, p1, by omega, by decide, by omega, mu6, mp1, mp4, fun L lo H2 ok x2 p2 la => ?_⟩
    have X2 := X1.trans x2
    clear x0 x1 nl0 nl1 hy0 hy1
    refine ⟨_, rfl, lo, L, rfl, la, ok, fun tb H3 s3 ta3 => ?_⟩
    have la3 := la.same s3
    refine ⟨_, rfl, lo, L, rfl, la3, ok, fun H4 s4 => ?_⟩
    intro x dx nx ndx nex
    have sM : Same H4 (upd (upd H4 dx (.own x)) x (.ins CS dx [])) := fun b o e => by rw [upd_ne (ne_of_none e nx), upd_ne (ne_of_none e ndx)]; exact e
    refine ⟨x, dx, L, rfl, ok, upd_same, fun H5 fs kb ex sf tx ss => ⟨rfl, _, _, rfl, ?_⟩⟩
    have s5 : Same H4 H5 := fun b o e => kb b o (ne_of_none e nx) (sM _ _ e)
    have sh5 : ShAt H5 C CS x L := ⟨dx, fs, ex, sf, tx, ss⟩
    have s35 := s4.trans s5
    have s25 := s3.trans s35
    have la5 := la3.same s35
    have ta5 := ta3.same s35
    have p5 := p2.same s25
    have X5 : ExtP a H H5 := X2.trans (.of s25)
    clear nx ndx nex sM ex sf tx ss kb s3 s4 s5 s35 s25 la la3 ta3 p2 X2 x2 p0 p1 X0 X1
    obtain ⟨M, hM, hM2⟩ : ∃ M, M = N + 1 + 1 + 210 ∧ M ≤ 6000 := ⟨_, rfl, by omega⟩
    rw [← hM] at p5
    have k6 := ok.k6
    have kl : (L.kps.map (·.1)).length = L.kps.length := List.length_map ..
    refine ⟨2, rfl, by decide, by decide, for_range (lo := 0) (n := 2) (fun i σ H' => ∃ u4 u5 u6 u7 u8 u9 u10 : Option V, σ = [some (.ref a), some (.ref lo), some (.ref tb), some (.ref x), u4, u5, u6, u7, u8, u9, u10] ∧ PotAt a (M + 300 * i) H' ∧ ExtP a H5 H') ?_ ?_ ?_⟩
    · exact ⟨none, none, none, none, none, none, none, rfl, p5, .refl _ _⟩
    · rintro i σ H6 i2 ⟨u4, u5, u6, u7, u8, u9, u10, rfl, p6, x6⟩
      have k56 := Keep.ext p5 x6
      have la6 := la5.keep k56
      have sh6 := sh5.keep k56
      have ta6 := ta5.ext ok p5 x6
      obtain ⟨pa, nm, pt, rows, e1, e2, e3, e4, e5⟩ := id la6
      have nma : nm ≠ a := fun z => by
        obtain ⟨ob, e, _⟩ := e3
        obtain ⟨_, _, _, h, _⟩ := p6
        rw [z, h] at e
        cases e
      have k2 := ok.k2
      refine ⟨_, rfl, _, rfl, lo, _, rfl, (dget3 e1).2.1, a, nm, 1, _, L.kps.map (·.1), rfl, p6, by omega, nma, .inr e3.sq, ok.kn, by omega, by decide, by omega, fun zs q H7 zsub _ x7 p7 nq eq => ?_⟩
      refine ⟨_, rfl, few_ok rfl, fun l nl => ⟨a, l, _, [.int 0, .int 1, .int 1, .int 2, .int 2], rfl, p7.same (same_new nl), by omega, fun z => p7.ne (by rw [← z]; exact nl), .inl upd_same, by decide, by decide, fun i8 y8 H8 hy8 x8 p8 => ⟨_, _, rfl, ?_⟩⟩⟩
      obtain ⟨n, n2, rfl⟩ : ∃ n : Nat, n ≤ 2 ∧ y8 = .int (n : Int) := by
        match i8, hy8 with
        | 0, h => exact ⟨0, by decide, (Option.some.inj h).symm⟩
        | 1, h => exact ⟨1, by decide, (Option.some.inj h).symm⟩
        | 2, h => exact ⟨1, by decide, (Option.some.inj h).symm⟩
        | 3, h => exact ⟨2, by decide, (Option.some.inj h).symm⟩
        | 4, h => exact ⟨2, by decide, (Option.some.inj h).symm⟩
        | _ + 5, h => simp at h
      have x78 : ExtP a H7 H8 := (ExtP.of (same_new nl)).trans x8
      have eq8 : H8 q = some (.tup (zs.map V.str)) := x78 _ _ (fun z => p6.ne (by rw [← z]; exact nq)) eq
      refine ⟨_, rfl, a, 3, _, rfl, p8, by omega, by decide, by decide, fun j H9 j0 j3 x9 p9 => ⟨rfl, _, rfl, ?_⟩⟩
      have eq9 : H9 q = some (.tup (zs.map V.str)) := x9 _ _ (fun z => p6.ne (by rw [← z]; exact nq)) eq8
      have x69 : ExtP a H6 H9 := x7.trans (x78.trans x9)
      have k69 := Keep.ext p6 x69
      have la9 := la6.keep k69
      have sh9 := sh6.keep k69
      have ta9 := ta6.ext ok p6 x69
      have e39 : TupX H9 nm _ := e3.keep k69
      have e19 := e1.keep k69
      refine iteV (R := fun y H' => ∃ tl ys, y = .ref tl ∧ LotE H' tl ys ∧ ys.Sublist (L.kps.map (·.1)) ∧ Same H9 H') ?_ (fun Q' hQ _ => ⟨_, rfl, lo, _, rfl, (dget3 e19).2.1, hQ _ _ ⟨nm, _, rfl, .inr e39, .refl _, Same.refl _⟩⟩) (fun Q' hQ _ => ⟨_, rfl, hQ _ _ ⟨q, zs, rfl, .inl eq9, zsub, Same.refl _⟩⟩)
      rintro y H10 ⟨tl, ys, rfl, lot, ysub, s10⟩
      have p10 := p9.same s10
      have la10 := la9.same s10
      have sh10 := sh9.same s10
      have ta10 := ta9.same s10
      have e310 := e39.same s10
      have e110 := e19.same s10
      refine ⟨_, rfl, _, rfl, _, rfl, x, tl, L, ys, n, rfl, sh10, ok, lot, ysub, by omega, fun o H11 s11 ho => ?_⟩
      refine ⟨_, rfl, _, rfl, lo, _, rfl, (dget3 (e110.same s11)).2.1, _, rfl, few_ok rfl, fun l2 nl2 => ?_⟩
      have p11 := p10.same s11
      refine ⟨a, l2, _, [.int 0, .int 1, .int 3], rfl, p11.same (same_new nl2), by omega, fun z => p11.ne (by rw [← z]; exact nl2), .inl upd_same, by decide, by decide, fun i12 y12 H12 hy12 x12 p12 => ?_⟩
      obtain ⟨n', n3', rfl⟩ : ∃ n : Nat, n ≤ 3 ∧ y12 = .int (n : Int) := by
        match i12, hy12 with
        | 0, h => exact ⟨0, by decide, (Option.some.inj h).symm⟩
        | 1, h => exact ⟨1, by decide, (Option.some.inj h).symm⟩
        | 2, h => exact ⟨3, by decide, (Option.some.inj h).symm⟩
        | _ + 3, h => simp at h
      have x112 : ExtP a H11 H12 := (ExtP.of (same_new nl2)).trans x12
      have x102 : ExtP a H10 H12 := (ExtP.of s11).trans x112
      have k102 := Keep.ext p10 x102
      have la12 := la10.keep k102
      have sh12 := sh10.keep k102
      have ta12 := ta10.ext ok p10 x102
      have lot12 := LotE.keep lot k102
      have ho12 : OverAt H12 o L ys n := by
        rcases ho with ⟨h, r⟩ | ⟨v, d, row, ks, h1, h2, r⟩
        · exact .inl ⟨Keep.ext p11 x112 _ _ h (fun _ z => by cases z), r⟩
        · exact .inr ⟨v, d, row, ks, Keep.ext p11 x112 _ _ h1 (fun _ z => by cases z), Keep.ext p11 x112 _ _ h2 (fun _ z => by cases z), r⟩
      have e312 : LotE H12 nm (L.kps.map (·.1)) := LotE.keep (.inr e310) k102
      refine ⟨x, nm, L, L.kps.map (fun k : KP => k.1), n', rfl, sh12, ok, e312, .refl _, n3', fun o2 H13 s13 ho2 => ⟨_, _, rfl, ?_⟩⟩
      have p13 := p12.same s13
      have ho13 : OverAt H13 o L ys n := by
        rcases ho12 with ⟨h, r⟩ | ⟨v, d, row, ks, h1, h2, r⟩
        · exact .inl ⟨s13 _ _ h, r⟩
        · exact .inr ⟨v, d, row, ks, s13 _ _ h1, s13 _ _ h2, r⟩
      obtain ⟨xq, hq, hsq, hdq, _, hl4, hni, _⟩ := heard_data (K := K) ok p13 ho2
      have far13 : VD K (hid [a] H13) (.ref o2) (.tuple hq) := .inl ⟨.tup hsq hdq, (Nice.tup hni hl4).mono (by decide) (by decide)⟩
      refine ⟨_, rfl, _, rfl, _, rfl, _, rfl, _, rfl, a, lo, tb, tl, o, L, ys, n, _, rfl, p13, by omega, la12.same s13, ok, ta12.same s13, LotE.same lot12 s13, ysub, ho13, fun R vs H14 x14 p14 Ra eR vl gv => ?_⟩
      refine ⟨_, rfl, few_ok rfl, fun l3 nl3 => ⟨R, l3, vs, [.ref o2], rfl, rfl, same_new nl3 _ _ eR, upd_same, by rw [sizeLine_eq]; simp; omega, fun R2 nR2 => ?_⟩⟩
      have s15 : Same H14 (upd (upd H14 l3 (.lst [.ref o2])) R2 (.lst (vs ++ [.ref o2]))) := (same_new nl3).trans (same_new nR2)
      have e15 := upd_same (H := upd H14 l3 (.lst [.ref o2])) (a := R2) (o := HO.lst (vs ++ [.ref o2]))
      generalize upd (upd H14 l3 (.lst [.ref o2])) R2 (.lst (vs ++ [.ref o2])) = H15 at s15 e15 ⊢
      have all : ∀ v ∈ vs ++ [.ref o2], ∃ d, VD K H15 v d := fun v hv => by
        rcases List.mem_append.mp hv with hv | hv
        · obtain ⟨d, h⟩ := gv v hv
          exact ⟨d, (h.same hid_sub).same s15⟩
        · rw [List.mem_singleton.mp hv]
          exact ⟨_, ((far13.same (hid_ext (List.mem_singleton.mpr rfl) x14)).same hid_sub).same s15⟩
      have x135 : ExtP a H13 H15 := x14.trans (.of s15)
      have x125 : ExtP a H12 H15 := (ExtP.of s13).trans x135
      have k125 := Keep.ext p12 x125
      have la15 := la12.keep k125
      have sh15 := sh12.keep k125
      have ta15 := ta12.ext ok p12 x125
      have lot15 := LotE.keep lot12 k125
      have p15 := p14.same s15
      refine ⟨R2, rfl, ⟨_, SqL.of e15⟩, for_list (xs := vs ++ [.ref o2]) (fun j σ H' => ∃ u9 u10 : Option V, σ = [some (.ref a), some (.ref lo), some (.ref tb), some (.ref x), some (.int (0 + (i : Int))), some (.ref tl), some (.int (n : Int)), some (.ref o), some (.ref o2), u9, u10] ∧ Same H15 H') ?_ ?_ ?_ ?_⟩
      · exact ⟨u9, u10, rfl, Same.refl _⟩
      · rintro j σ H' _ ⟨_, _, rfl, ss⟩
        exact SqL.of (ss _ _ e15)
      · rintro j v σ H16 hv ⟨v9, v10, rfl, s16⟩
        obtain ⟨d, vd⟩ := all v (List.mem_of_getElem? hv)
        refine ⟨_, rfl, _, rfl, _, rfl, _, rfl, _, rfl, lo, tb, tl, L, ys, v, d, n, rfl, la15.same s16, ok, ta15.same s16, (LotE.same lot15 s16).sq, ysub, by omega, vd.same s16, fun b2 H17 s17 hb2 => ?_⟩
        have s1617 := s16.trans s17
        refine ⟨_, rfl, _, rfl, _, rfl, _, rfl, x, tl, L, ys, v, d, n, rfl, sh15.same s1617, ok, LotE.same lot15 s1617, ysub, by omega, vd.same s1617, fun b1 H18 s18 hb1 => ?_⟩
        obtain rfl : b1 = b2 := by rw [Bool.eq_iff_iff, hb1, hb2]
        have nB : Nice 0 0 (.bool b1) := ⟨by simp [PyData.canLay0], by simp [PyData.depth], by simp [PyData.weight], by simp [PyData.intsShort], by simp [PyData.showable]⟩
        refine ⟨.bl b1, .bool b1, rfl, .bl b1, nB.sw, Nat.le_trans nB.dep (by decide), nB.fits (by decide) (by decide), ?_⟩
        refine ⟨_, rfl, .bl b1, .bool b1, rfl, .bl b1, nB.sw, Nat.le_trans nB.dep (by decide), nB.fits (by decide) (by decide), rfl, _, rfl, iteB (by simp) ?_⟩
        exact ⟨_, _, rfl, s1617.trans s18⟩
      · rintro σ H16 ⟨v9, v10, rfl, s16⟩
        refine ⟨_, _, _, _, _, _, _, rfl, (p15.same s16).mono (by omega), ?_⟩
        exact x6.trans (x69.trans ((ExtP.of s10).trans (x102.trans (x125.trans (.of s16)))))
    · rintro σ H6 ⟨u4, u5, u6, u7, u8, u9, u10, rfl, p6, x6⟩
      exact k _ (X5.trans x6) (p6.mono (by omega))
end
end K6
set_option Elab.async false
set_option linter.all false
set_option maxRecDepth 100000
set_option maxHeartbeats 2000000
set_option pp.maxSteps 1200
set_option pp.deepTerms false
namespace K6
open PySem PySem.Spec PyProof.Rows L2 Lk
abbrev sLaw : Stmt := top 93
section
variable {P : Program} {w : World} {K : PySem.W.Frag} {mg : Str → Option Value} {base : Heap} {f : Addr} {fd : FuncData}
/-! ### law -/
def spLaw (K : PySem.W.Frag) : Sp := fun vs H Q _ => ∃ (a : Addr) (ns : List Int), vs = [.ref a] ∧ SqL K H a (ns.map V.int) ∧ ns.length ≤ 63 ∧ ∀ H', Q (.bl true) H'
theorem scLaw : FnScope ["script", "place"] ["script"] (defScope sLaw) := ⟨rfl, rfl, rfl, by decide +kernel, rfl, by decide +kernel, by decide +kernel⟩
theorem ok_law {fR fC fP : Addr} {fdR fdC fdP : FuncData} (F : Fun K "law" "law" sLaw f fd) (T : Bl mg)
    (GR : FnG P w K mg base 9 fR fdR ["pot"] spRight) (kR : PySem.W.keepIn K (.ref fR) = true) (bR : Binds K fdR ["pot"] []) (mR : mg "_law_right" = some (.ref fR))
    (FC : Fun K "_law_cells" "_law_cells" sCells fC fdC) (bC : Binds K fdC ["script", "limit"] []) (mC : mg "_law_cells" = some (.ref fC))
    (FP : Fun K "_law_pot" "_law_pot" sPot fP fdP) (bP : Binds K fdP ["script", "place"] []) (mP : mg "_law_pot" = some (.ref fP)) :
    FnG P w K mg base 10 f fd ["script"] (spLaw K) := by
  have GC : FnOk P w K mg base CX0 1 fC fdC ["script", "limit"] (spCells K) := ok_cells FC T
  have GP : FnOk P w K mg base CX0 1 fP fdP ["script", "place"] (spPot K) := ok_pot FP T
  refine FnG.of F scLaw (fun vs H Q h => ?_) (fun cdv A outer s H vs Q hr hG h => ?_)
  · obtain ⟨a, ns, rfl, _⟩ := h
    rfl
  · obtain ⟨a, ns, rfl, hs, hl, k⟩ := h
    have nd := scLaw.nd
    have hr1 : Room 1 _ := hr.mono (by decide)
    refine ⟨_, pss_one (ps_ret (pe_callB (cr_all rfl) (by rfl) T.all boot_all (pa_cons (pe_lc (own := [("place", 1)]) (g := gName 1) (tt := tYes) rfl nd (pi_list (pe_call GC hr1 (by rfl) mC FC.kp bC .nil pass0 (pa_cons (pv 0) (pa_cons pe_int pa_nil))))
          (blkOk_by (N := ["script", "place"]) (sc := defScope sLaw) (by decide +kernel)) (fun _ _ _ _ _ => pg_name (i := 1) nd rfl (.inl rfl)) (fun _ _ _ _ _ => pts_nil)
          (fun _ _ _ _ _ => pe_gcall GR hr hG (by rfl) mR kR bR (pa_cons (pe_call GP hr1 (by rfl) mP FP.kp bP .nil pass0 (pa_cons (pv 0) (pa_cons (pv 1) pa_nil))) pa_nil))) pa_nil))), ?_⟩
    refine ⟨_, rfl, a, ns, 2, rfl, hs, hl, by decide, by decide, fun l n hn nl => ?_⟩
    have sl : Same H (upd H l (.lst (rgV 0 (n : Int)))) := same_new nl
    have el : upd H l (.lst (rgV 0 (n : Int))) l = some (.lst (rgV 0 (n : Int))) := upd_same
    generalize upd H l (.lst (rgV 0 (n : Int))) = H1 at sl el ⊢
    have rl : (rgV 0 (n : Int)).length = n := by
      unfold rgV
      rw [List.length_map, List.length_range]
      omega
    refine ⟨l, rfl, ⟨_, SqL.of el⟩, fun D nD => ?_⟩
    refine lc_it (walk_list (a := l) (xs := rgV 0 (n : Int))) (fun q Hq => Hq D = some (.lst (List.replicate q (V.bl true))) ∧ Same H1 Hq) ⟨upd_same, same_new nD⟩ (fun q Hq _ ⟨_, s⟩ => SqL.of (s _ _ el)) ?_ ?_
    · rintro i x Hq Hq' hi ⟨eD, sq⟩ ⟨rfl, hx⟩
      rw [rl] at hi
      obtain rfl : x = V.int (0 + (i : Nat)) := by
        unfold rgV at hx
        rw [List.getElem?_map, List.getElem?_range (by omega)] at hx
        exact (Option.some.inj hx).symm
      refine ⟨rfl, ?_⟩
      unfold tYes
      refine iteT ?_
      refine ⟨_, rfl, _, rfl, a, ns, _, rfl, sq.seq (sl.seq hs), hl, by omega, by omega, fun p H2 np s2 hp => ?_⟩
      refine ⟨p, 0, rfl, hp, by decide, fun H3 x3 p3 => ?_⟩
      have s3 : Same Hq' H3 := fun b o e => x3 b o (ne_of_none e np) (s2 _ _ e)
      refine ⟨_, s3 _ _ eD, by rw [List.length_replicate, sizeLine_eq]; omega, ?_, fun b o e => ?_⟩
      · rw [upd_same, List.replicate_succ']
      · rw [upd_ne (ne_of_none e nD)]
        exact s3 _ _ (sq _ _ e)
    · rintro Hq ⟨eD, sq⟩
      rw [rl] at eD
      have eq3 : Hq D = some (.lst ((List.replicate n true).map V.bl)) := by rw [eD, List.map_replicate]
      refine ⟨D, List.replicate n true, rfl, SqL.of eq3, ?_⟩
      have al : (List.replicate n true).all id = true := by
        rw [List.all_eq_true]
        intro b hb
        rw [(List.mem_replicate.mp hb).2]
        rfl
      rw [al]
      exact k Hq
end
end K6
set_option Elab.async false
set_option linter.all false
set_option maxRecDepth 100000
set_option maxHeartbeats 0
namespace K6
open PySem PySem.Spec PyProof.Rows L2 Lk
/-! ### the head: what is looked at behind the top -/
def nxtO (o : Obj) : List Addr := match o.data with
  | .cls cd => [cd.ns]
  | .func fd => He.refV fd.code
  | _ => []
def nxtD (o : Obj) : List Addr := match o.data with
  | .dict es _ => es.toList.flatMap fun e => He.refV e.val
  | _ => []
def step1 (n : Obj → List Addr) (g : Addr → Option Obj) (as : List Addr) : List Addr := as.flatMap fun a => match g a with
  | some o => n o
  | none => []
def as1 (g : Addr → Option Obj) : List Addr := step1 nxtD g [mainGlobals]
def as2 (g : Addr → Option Obj) : List Addr := step1 nxtO g (as1 g)
def as3 (g : Addr → Option Obj) : List Addr := step1 nxtD g (as2 g)
def as4 (g : Addr → Option Obj) : List Addr := step1 nxtO g (as3 g)
def asK (g : Addr → Option Obj) : List Addr := mainGlobals :: (as1 g ++ (as2 g ++ (as3 g ++ as4 g)))
theorem ba3 {a b c : Bool} (h : (a && (b && c)) = true) : a = true ∧ b = true ∧ c = true := by
  obtain ⟨h1, h2⟩ := He.ba h
  exact ⟨h1, He.ba h2⟩
def gC (K : PySem.W.Frag) : Addr := He.ga K "Circle"
def gS (K : PySem.W.Frag) : Addr := He.ga K "Shelf"
def exB (K : PySem.W.Frag) : Bool := true
def dx0 : He.DefD := ⟨("law", none), "law", "law", defArgs sLaw, defBody sLaw, defScope sLaw, [], []⟩
def dx1 : He.DefD := ⟨("_law_right", none), "_law_right", "_law_right", defArgs sRight, defBody sRight, defScope sRight, [], []⟩
def dx2 : He.DefD := ⟨("Shelf", some "__init__"), "__init__", "Shelf.__init__", defArgs sShelfInit, defBody sShelfInit, defScope sShelfInit, [], []⟩
def dx3 : He.DefD := ⟨("_law_thick_shelf", none), "_law_thick_shelf", "_law_thick_shelf", defArgs sThick, defBody sThick, defScope sThick, [], []⟩
def dx4 : He.DefD := ⟨("_law_shelf", none), "_law_shelf", "_law_shelf", defArgs sShelf, defBody sShelf, defScope sShelf, [], []⟩
def dx5 : He.DefD := ⟨("_law_take", none), "_law_take", "_law_take", defArgs sTake, defBody sTake, defScope sTake, [], []⟩
def dx6 : He.DefD := ⟨("_law_some", none), "_law_some", "_law_some", defArgs sSome, defBody sSome, defScope sSome, [], []⟩
def dx7 : He.DefD := ⟨("_law_lot_of", none), "_law_lot_of", "_law_lot_of", defArgs sLotOf, defBody sLotOf, defScope sLotOf, [], []⟩
def dx8 : He.DefD := ⟨("_law_names", none), "_law_names", "_law_names", defArgs sNames, defBody sNames, defScope sNames, [], []⟩
def dx9 : He.DefD := ⟨("_law_piece", none), "_law_piece", "_law_piece", defArgs sPiece, defBody sPiece, defScope sPiece, [], []⟩
def dx10 : He.DefD := ⟨("_law_parts", none), "_law_parts", "_law_parts", defArgs sParts, defBody sParts, defScope sParts, [], []⟩
def dx11 : He.DefD := ⟨("_law_with", none), "_law_with", "_law_with", defArgs sWith, defBody sWith, defScope sWith, [], []⟩
def dx12 : He.DefD := ⟨("_law_shelf_text", none), "_law_shelf_text", "_law_shelf_text", defArgs sText, defBody sText, defScope sText, [], []⟩
def dx13 : He.DefD := ⟨("Circle", some "__init__"), "__init__", "Circle.__init__", defArgs sCircInit, defBody sCircInit, defScope sCircInit, [], []⟩
def dx14 : He.DefD := ⟨("wrong_line", none), "wrong_line", "wrong_line", defArgs sWrong, defBody sWrong, defScope sWrong, [], []⟩
def dx15 : He.DefD := ⟨("stands_in_shelf", none), "stands_in_shelf", "stands_in_shelf", defArgs sStands, defBody sStands, defScope sStands, [], []⟩
def dx16 : He.DefD := ⟨("is_name", none), "is_name", "is_name", defArgs sIsName, defBody sIsName, defScope sIsName, [], []⟩
def dx17 : He.DefD := ⟨("are_names", none), "are_names", "are_names", defArgs sAreNames, defBody sAreNames, defScope sAreNames, [], []⟩
def dx18 : He.DefD := ⟨("is_parts_line", none), "is_parts_line", "is_parts_line", defArgs sPartsLine, defBody sPartsLine, defScope sPartsLine, [], []⟩
def dx19 : He.DefD := ⟨("is_piece_word", none), "is_piece_word", "is_piece_word", defArgs sPieceWord, defBody sPieceWord, defScope sPieceWord, [], []⟩
def dx20 : He.DefD := ⟨("is_whole_shelf", none), "is_whole_shelf", "is_whole_shelf", defArgs sWhole, defBody sWhole, defScope sWhole, [], []⟩
def dx21 : He.DefD := ⟨("read_pieces", none), "read_pieces", "read_pieces", defArgs sReadPieces, defBody sReadPieces, defScope sReadPieces, [], []⟩
def dx22 : He.DefD := ⟨("all_spots", none), "all_spots", "all_spots", defArgs sAllSpots, defBody sAllSpots, defScope sAllSpots, [], []⟩
def dx23 : He.DefD := ⟨("piece_at", none), "piece_at", "piece_at", defArgs sPieceAt, defBody sPieceAt, defScope sPieceAt, [], []⟩
def dx24 : He.DefD := ⟨("piece_code", none), "piece_code", "piece_code", defArgs sPieceCode, defBody sPieceCode, defScope sPieceCode, [], []⟩
def dx25 : He.DefD := ⟨("_law_a_lot", none), "_law_a_lot", "_law_a_lot", defArgs sALot, defBody sALot, defScope sALot, [], []⟩
def dx26 : He.DefD := ⟨("_law_of", none), "_law_of", "_law_of", defArgs sOf, defBody sOf, defScope sOf, [], []⟩
def dx27 : He.DefD := ⟨("_law_answer_rows", none), "_law_answer_rows", "_law_answer_rows", defArgs sRows, defBody sRows, defScope sRows, [], []⟩
def dx28 : He.DefD := ⟨("_law_records", none), "_law_records", "_law_records", defArgs sRecords, defBody sRecords, defScope sRecords, [], []⟩
def dx29 : He.DefD := ⟨("_law_answer", none), "_law_answer", "_law_answer", defArgs sLAnswer, defBody sLAnswer, defScope sLAnswer, [], []⟩
def dx30 : He.DefD := ⟨("_law_piece_value", none), "_law_piece_value", "_law_piece_value", defArgs sValue, defBody sValue, defScope sValue, [], []⟩
def dx31 : He.DefD := ⟨("_law_near", none), "_law_near", "_law_near", defArgs sNear, defBody sNear, defScope sNear, [], []⟩
def dx32 : He.DefD := ⟨("_law_apart", none), "_law_apart", "_law_apart", defArgs sApart, defBody sApart, defScope sApart, [], []⟩
def dx33 : He.DefD := ⟨("_law_bent", none), "_law_bent", "_law_bent", defArgs sBent, defBody sBent, defScope sBent, [], []⟩
def dx34 : He.DefD := ⟨("_law_odd", none), "_law_odd", "_law_odd", defArgs sOdd, defBody sOdd, defScope sOdd, [], []⟩
def dx35 : He.DefD := ⟨("_law_is_overruled", none), "_law_is_overruled", "_law_is_overruled", defArgs sLOver, defBody sLOver, defScope sLOver, [], []⟩
def dx36 : He.DefD := ⟨("_law_is_sure", none), "_law_is_sure", "_law_is_sure", defArgs sLSure, defBody sLSure, defScope sLSure, [], []⟩
def dx37 : He.DefD := ⟨("_law_is_open_told", none), "_law_is_open_told", "_law_is_open_told", defArgs sOpenT, defBody sOpenT, defScope sOpenT, [], []⟩
def dx38 : He.DefD := ⟨("_law_is_any_record", none), "_law_is_any_record", "_law_is_any_record", defArgs sAnyRec, defBody sAnyRec, defScope sAnyRec, [], []⟩
def dx39 : He.DefD := ⟨("_law_is_lot", none), "_law_is_lot", "_law_is_lot", defArgs sLIsLot, defBody sLIsLot, defScope sLIsLot, [], []⟩
def dx40 : He.DefD := ⟨("_law_is_inside", none), "_law_is_inside", "_law_is_inside", defArgs sInside, defBody sInside, defScope sInside, [], []⟩
def dx41 : He.DefD := ⟨("shows_overruled", none), "shows_overruled", "shows_overruled", defArgs sShows, defBody sShows, defScope sShows, [], []⟩
def dx42 : He.DefD := ⟨("refuse_lot", none), "refuse_lot", "refuse_lot", defArgs sRefLot, defBody sRefLot, defScope sRefLot, [], []⟩
def dx43 : He.DefD := ⟨("is_lot", none), "is_lot", "is_lot", defArgs sIsLot, defBody sIsLot, defScope sIsLot, [], []⟩
def dx44 : He.DefD := ⟨("refuse_bound", none), "refuse_bound", "refuse_bound", defArgs sRefBound, defBody sRefBound, defScope sRefBound, [], []⟩
def dx45 : He.DefD := ⟨("is_from_to", none), "is_from_to", "is_from_to", defArgs sFromTo, defBody sFromTo, defScope sFromTo, [], []⟩
def dx46 : He.DefD := ⟨("is_integer", none), "is_integer", "is_integer", defArgs sIsInt, defBody sIsInt, defScope sIsInt, [], []⟩
def dx47 : He.DefD := ⟨("is_told", none), "is_told", "is_told", defArgs sIsTold, defBody sIsTold, defScope sIsTold, [], []⟩
def dx48 : He.DefD := ⟨("is_row", none), "is_row", "is_row", defArgs sIsRow, defBody sIsRow, defScope sIsRow, [], []⟩
def dx49 : He.DefD := ⟨("is_open", none), "is_open", "is_open", defArgs sIsOpen, defBody sIsOpen, defScope sIsOpen, [], []⟩
def dx50 : He.DefD := ⟨("is_record", none), "is_record", "is_record", defArgs sIsRecord, defBody sIsRecord, defScope sIsRecord, [], []⟩
def dx51 : He.DefD := ⟨("are_bits", none), "are_bits", "are_bits", defArgs sAreBits, defBody sAreBits, defScope sAreBits, [], []⟩
def dx52 : He.DefD := ⟨("is_within", none), "is_within", "is_within", defArgs sWithin, defBody sWithin, defScope sWithin, [], []⟩
def dx53 : He.DefD := ⟨("less", none), "less", "less", defArgs sPLess, defBody sPLess, defScope sPLess, [], []⟩
def dx54 : He.DefD := ⟨("answer", none), "answer", "answer", defArgs sAnswer, defBody sAnswer, defScope sAnswer, [], []⟩
def dx55 : He.DefD := ⟨("refuse_keeper", none), "refuse_keeper", "refuse_keeper", defArgs sRefKeeper, defBody sRefKeeper, defScope sRefKeeper, [], []⟩
def dx56 : He.DefD := ⟨("Circle", some "__contains__"), "__contains__", "Circle.__contains__", defArgs sCircIn, defBody sCircIn, defScope sCircIn, [], []⟩
def dx57 : He.DefD := ⟨("refuse_record", none), "refuse_record", "refuse_record", defArgs sRefRecord, defBody sRefRecord, defScope sRefRecord, [], []⟩
def dx58 : He.DefD := ⟨("worth", none), "worth", "worth", defArgs sWorth, defBody sWorth, defScope sWorth, [], []⟩
def dx59 : He.DefD := ⟨("is_sure", none), "is_sure", "is_sure", defArgs sIsSure, defBody sIsSure, defScope sIsSure, [], []⟩
def dx60 : He.DefD := ⟨("first_doubted", none), "first_doubted", "first_doubted", defArgs sDoubted, defBody sDoubted, defScope sDoubted, [], []⟩
def dx61 : He.DefD := ⟨("lots", none), "lots", "lots", defArgs sLots, defBody sLots, defScope sLots, [], []⟩
def dx62 : He.DefD := ⟨("Circle", some "__len__"), "__len__", "Circle.__len__", defArgs sCircLen, defBody sCircLen, defScope sCircLen, [], []⟩
def dx63 : He.DefD := ⟨("brings_back", none), "brings_back", "brings_back", defArgs sBack, defBody sBack, defScope sBack, [], []⟩
def dx64 : He.DefD := ⟨("tells_all", none), "tells_all", "tells_all", defArgs sTellsAll, defBody sTellsAll, defScope sTellsAll, [], []⟩
def dx65 : He.DefD := ⟨("reach", none), "reach", "reach", defArgs sReach, defBody sReach, defScope sReach, [], []⟩
def dx66 : He.DefD := ⟨("span", none), "span", "span", defArgs sSpan, defBody sSpan, defScope sSpan, [], []⟩
def dx67 : He.DefD := ⟨("spots_of", none), "spots_of", "spots_of", defArgs sSpotsOf, defBody sSpotsOf, defScope sSpotsOf, [], []⟩
def dx68 : He.DefD := ⟨("overruled", none), "overruled", "overruled", defArgs sOver, defBody sOver, defScope sOver, [], []⟩
def dx69 : He.DefD := ⟨("lost_record", none), "lost_record", "lost_record", defArgs sLostRec, defBody sLostRec, defScope sLostRec, [], []⟩
def dx70 : He.DefD := ⟨("records", none), "records", "records", defArgs sRecs, defBody sRecs, defScope sRecs, [], []⟩
def dx71 : He.DefD := ⟨("all_bits", none), "all_bits", "all_bits", defArgs sAllBits, defBody sAllBits, defScope sAllBits, [], []⟩
def dx72 : He.DefD := ⟨("is_lost", none), "is_lost", "is_lost", defArgs sIsLost, defBody sIsLost, defScope sIsLost, [], []⟩
def dx73 : He.DefD := ⟨("is_silent", none), "is_silent", "is_silent", defArgs sIsSilent, defBody sIsSilent, defScope sIsSilent, [], []⟩
def dx74 : He.DefD := ⟨("_law_cells", none), "_law_cells", "_law_cells", defArgs sCells, defBody sCells, defScope sCells, [], []⟩
def dx75 : He.DefD := ⟨("_law_pot", none), "_law_pot", "_law_pot", defArgs sPot, defBody sPot, defScope sPot, [], []⟩
def fn : List He.DefD := [dx0, dx1, dx2, dx3, dx4, dx5, dx6, dx7, dx8, dx9, dx10, dx11, dx12, dx13, dx14, dx15, dx16, dx17, dx18, dx19, dx20, dx21, dx22, dx23, dx24, dx25, dx26, dx27, dx28, dx29, dx30, dx31, dx32, dx33, dx34, dx35, dx36, dx37, dx38, dx39, dx40, dx41, dx42, dx43, dx44, dx45, dx46, dx47, dx48, dx49, dx50, dx51, dx52, dx53, dx54, dx55, dx56, dx57, dx58, dx59, dx60, dx61, dx62, dx63, dx64, dx65, dx66, dx67, dx68, dx69, dx70, dx71, dx72, dx73, dx74, dx75]
def fa : List He.Fa := [.glo "law", .glo "_law_right", .glo "_law_thick_shelf", .glo "_law_shelf", .glo "_law_take", .glo "_law_some", .glo "_law_lot_of", .glo "_law_names", .glo "_law_piece", .glo "_law_parts", .glo "_law_with", .glo "_law_shelf_text", .glo "wrong_line", .glo "stands_in_shelf", .glo "is_name", .glo "are_names", .glo "is_parts_line", .glo "is_piece_word", .glo "is_whole_shelf", .glo "read_pieces", .glo "all_spots", .glo "piece_at", .glo "piece_code", .glo "_law_a_lot", .glo "_law_of", .glo "_law_answer_rows", .glo "_law_records", .glo "_law_answer", .glo "_law_piece_value", .glo "_law_near", .glo "_law_apart", .glo "_law_bent", .glo "_law_odd", .glo "_law_is_overruled", .glo "_law_is_sure", .glo "_law_is_open_told", .glo "_law_is_any_record", .glo "_law_is_lot", .glo "_law_is_inside", .glo "shows_overruled", .glo "refuse_lot", .glo "is_lot", .glo "refuse_bound", .glo "is_from_to", .glo "is_integer", .glo "is_told", .glo "is_row", .glo "is_open", .glo "is_record", .glo "are_bits", .glo "is_within", .glo "less", .glo "answer", .glo "refuse_keeper", .glo "refuse_record", .glo "worth", .glo "is_sure", .glo "first_doubted", .glo "lots", .glo "brings_back", .glo "tells_all", .glo "reach", .glo "span", .glo "spots_of", .glo "overruled", .glo "lost_record", .glo "records", .glo "all_bits", .glo "is_lost", .glo "is_silent", .glo "_law_cells", .glo "_law_pot", .glo "Circle", .glo "Shelf", .free "int", .free "abs", .free "len", .free "list", .free "range", .free "max", .free "min", .free "all", .free "any", .free "repr", .free "isinstance", .free "enumerate", .free "ValueError", .free "str", .free "tuple", .free "set", .free "sum", .free "sorted", .free "zip", .free "dict", .free "bool", .str "LETTERS" "abcdefghijklmnopqrstuvwxyz", .int "MOST_PARTS" 4, .int "LEAST_KEEPERS" 2, .int "MOST_KEEPERS" 6, .int "MOST_PIECES" 2, .int "MOST_LIARS" 3, .cls "Circle", .cls "Shelf", .noat "Circle" "names", .noat "Shelf" "text", .noat "Shelf" "parts", .noat "Shelf" "circle", .noat "Shelf" "pieces", .noat "Shelf" "spots", .noat "Shelf" "codes", .mkr "Circle", .mkr "Shelf", .meth "Circle" "__contains__", .meth "Circle" "__len__"]
def obF (K : PySem.W.Frag) : He.AlD × Bool := (He.obsD fa fn K, exB K)
def obK (g : Addr → Option Obj) : He.AlD × Bool := obF (He.frG g (asK g))
def hk : PySem.W.Hook where
  α := He.AlD × Bool
  obs := fun s => obK s.heap.get?
  val := fun _ => (He.valD fn, true)
  says := fun _ h => ∃ K : PySem.W.Frag, K.In h ∧ obF K = (He.valD fn, true)
  of := fun _ _ e => ⟨_, He.frG_in, e⟩
  keeps := fun _ _ _ ⟨K, hK, c⟩ k => ⟨K, PySem.W.Frag.In.keeps hK k, c⟩
theorem fun_of {K : PySem.W.Frag} {x q : Str} {st : Stmt} {f : Addr} {fd : FuncData} (F : FunD K x q (defArgs st) (defBody st) (defScope st) [] [] f fd) : Fun K x q st f fd := by
  obtain ⟨⟨oc, od, dV, kV, doc, pm, an, cdv, ct, osl, e, lk, hcd, hd, _⟩, kp⟩ := F
  rcases hd with ⟨_, rfl⟩ | ⟨h, _⟩
  · exact ⟨⟨oc, od, kV, doc, pm, an, cdv, ct, osl, e, lk, hcd⟩, kp⟩
  · exact absurd rfl h
theorem facts {P : Program} {w : World} {K : PySem.W.Frag} {h : Heap} {mg : Str → Option Value} {f : Addr} (X : K.In h) (G : h.Ns mainGlobals mg) (hfa : mg ("law" : Str) = some (.ref f)) (c : obF K = (He.valD fn, true)) :
    ∃ fd : FuncData, (∀ (s : Shared) (v : Value), BindsTo s fd ⟨[v], []⟩ [("script", v)]) ∧ ∀ base : Heap, K.In base → base.Ns mainGlobals mg → FnG P w K mg base 10 f fd ["script"] (spLaw K) := by
  have cD : He.SaysD fa fn K := congrArg (fun z : He.AlD × Bool => z.1) c
  obtain ⟨fdx0, Dx0⟩ := cD.def_ 0 (d := dx0) rfl
  have Fx0 : Fun K "law" "law" sLaw (He.fAd K dx0.at_) fdx0 := fun_of Dx0
  have mx0 : mg "law" = some (.ref (He.fAd K dx0.at_)) := He.glo_ok X G (cD.fact 0 (f := .glo "law") rfl)
  obtain ⟨fdx1, Dx1⟩ := cD.def_ 1 (d := dx1) rfl
  have bx1 := FunD.bindsN (ps := ["pot"]) Dx1 fun _ _ _ _ _ _ us hl => match us, hl with | [_], _ => rfl
  have Fx1 : Fun K "_law_right" "_law_right" sRight (He.fAd K dx1.at_) fdx1 := fun_of Dx1
  have mx1 : mg "_law_right" = some (.ref (He.fAd K dx1.at_)) := He.glo_ok X G (cD.fact 1 (f := .glo "_law_right") rfl)
  obtain ⟨fdx2, Dx2⟩ := cD.def_ 2 (d := dx2) rfl
  have bx2 := FunD.bindsN (ps := ["self", "text"]) Dx2 fun _ _ _ _ _ _ us hl => match us, hl with | [_, _], _ => rfl
  have Fx2 : Fun K "__init__" "Shelf.__init__" sShelfInit (He.fAd K dx2.at_) fdx2 := fun_of Dx2
  obtain ⟨fdx3, Dx3⟩ := cD.def_ 3 (d := dx3) rfl
  have bx3 := FunD.bindsN (ps := ["pot", "few", "upmost", "most_parts"]) Dx3 fun _ _ _ _ _ _ us hl => match us, hl with | [_, _, _, _], _ => rfl
  have Fx3 : Fun K "_law_thick_shelf" "_law_thick_shelf" sThick (He.fAd K dx3.at_) fdx3 := fun_of Dx3
  have mx3 : mg "_law_thick_shelf" = some (.ref (He.fAd K dx3.at_)) := He.glo_ok X G (cD.fact 2 (f := .glo "_law_thick_shelf") rfl)
  obtain ⟨fdx4, Dx4⟩ := cD.def_ 4 (d := dx4) rfl
  have bx4 := FunD.bindsN (ps := ["pot", "few", "upmost", "most_parts"]) Dx4 fun _ _ _ _ _ _ us hl => match us, hl with | [_, _, _, _], _ => rfl
  have Fx4 : Fun K "_law_shelf" "_law_shelf" sShelf (He.fAd K dx4.at_) fdx4 := fun_of Dx4
  have mx4 : mg "_law_shelf" = some (.ref (He.fAd K dx4.at_)) := He.glo_ok X G (cD.fact 3 (f := .glo "_law_shelf") rfl)
  obtain ⟨fdx5, Dx5⟩ := cD.def_ 5 (d := dx5) rfl
  have bx5 := FunD.bindsN (ps := ["pot", "upto"]) Dx5 fun _ _ _ _ _ _ us hl => match us, hl with | [_, _], _ => rfl
  have Fx5 : Fun K "_law_take" "_law_take" sTake (He.fAd K dx5.at_) fdx5 := fun_of Dx5
  have mx5 : mg "_law_take" = some (.ref (He.fAd K dx5.at_)) := He.glo_ok X G (cD.fact 4 (f := .glo "_law_take") rfl)
  obtain ⟨fdx6, Dx6⟩ := cD.def_ 6 (d := dx6) rfl
  have bx6 := FunD.bindsN (ps := ["pot", "pool", "amount"]) Dx6 fun _ _ _ _ _ _ us hl => match us, hl with | [_, _, _], _ => rfl
  have Fx6 : Fun K "_law_some" "_law_some" sSome (He.fAd K dx6.at_) fdx6 := fun_of Dx6
  have mx6 : mg "_law_some" = some (.ref (He.fAd K dx6.at_)) := He.glo_ok X G (cD.fact 5 (f := .glo "_law_some") rfl)
  obtain ⟨fdx7, Dx7⟩ := cD.def_ 7 (d := dx7) rfl
  have bx7 := FunD.bindsN (ps := ["names", "some"]) Dx7 fun _ _ _ _ _ _ us hl => match us, hl with | [_, _], _ => rfl
  have Fx7 : Fun K "_law_lot_of" "_law_lot_of" sLotOf (He.fAd K dx7.at_) fdx7 := fun_of Dx7
  have mx7 : mg "_law_lot_of" = some (.ref (He.fAd K dx7.at_)) := He.glo_ok X G (cD.fact 6 (f := .glo "_law_lot_of") rfl)
  obtain ⟨fdx8, Dx8⟩ := cD.def_ 8 (d := dx8) rfl
  have bx8 := FunD.bindsN (ps := ["pot", "few", "upmost"]) Dx8 fun _ _ _ _ _ _ us hl => match us, hl with | [_, _, _], _ => rfl
  have Fx8 : Fun K "_law_names" "_law_names" sNames (He.fAd K dx8.at_) fdx8 := fun_of Dx8
  have mx8 : mg "_law_names" = some (.ref (He.fAd K dx8.at_)) := He.glo_ok X G (cD.fact 7 (f := .glo "_law_names") rfl)
  obtain ⟨fdx9, Dx9⟩ := cD.def_ 9 (d := dx9) rfl
  have bx9 := FunD.bindsN (ps := ["pot", "parts"]) Dx9 fun _ _ _ _ _ _ us hl => match us, hl with | [_, _], _ => rfl
  have Fx9 : Fun K "_law_piece" "_law_piece" sPiece (He.fAd K dx9.at_) fdx9 := fun_of Dx9
  have mx9 : mg "_law_piece" = some (.ref (He.fAd K dx9.at_)) := He.glo_ok X G (cD.fact 8 (f := .glo "_law_piece") rfl)
  obtain ⟨fdx10, Dx10⟩ := cD.def_ 10 (d := dx10) rfl
  have bx10 := FunD.bindsN (ps := ["pot", "upmost"]) Dx10 fun _ _ _ _ _ _ us hl => match us, hl with | [_, _], _ => rfl
  have Fx10 : Fun K "_law_parts" "_law_parts" sParts (He.fAd K dx10.at_) fdx10 := fun_of Dx10
  have mx10 : mg "_law_parts" = some (.ref (He.fAd K dx10.at_)) := He.glo_ok X G (cD.fact 9 (f := .glo "_law_parts") rfl)
  obtain ⟨fdx11, Dx11⟩ := cD.def_ 11 (d := dx11) rfl
  have bx11 := FunD.bindsN (ps := ["lore", "key", "value"]) Dx11 fun _ _ _ _ _ _ us hl => match us, hl with | [_, _, _], _ => rfl
  have Fx11 : Fun K "_law_with" "_law_with" sWith (He.fAd K dx11.at_) fdx11 := fun_of Dx11
  have mx11 : mg "_law_with" = some (.ref (He.fAd K dx11.at_)) := He.glo_ok X G (cD.fact 10 (f := .glo "_law_with") rfl)
  obtain ⟨fdx12, Dx12⟩ := cD.def_ 12 (d := dx12) rfl
  have bx12 := FunD.bindsN (ps := ["lore"]) Dx12 fun _ _ _ _ _ _ us hl => match us, hl with | [_], _ => rfl
  have Fx12 : Fun K "_law_shelf_text" "_law_shelf_text" sText (He.fAd K dx12.at_) fdx12 := fun_of Dx12
  have mx12 : mg "_law_shelf_text" = some (.ref (He.fAd K dx12.at_)) := He.glo_ok X G (cD.fact 11 (f := .glo "_law_shelf_text") rfl)
  obtain ⟨fdx13, Dx13⟩ := cD.def_ 13 (d := dx13) rfl
  have bx13 := FunD.bindsN (ps := ["self", "names"]) Dx13 fun _ _ _ _ _ _ us hl => match us, hl with | [_, _], _ => rfl
  have Fx13 : Fun K "__init__" "Circle.__init__" sCircInit (He.fAd K dx13.at_) fdx13 := fun_of Dx13
  obtain ⟨fdx14, Dx14⟩ := cD.def_ 14 (d := dx14) rfl
  have bx14 := FunD.bindsN (ps := ["text", "can_stand", "is_whole"]) Dx14 fun _ _ _ _ _ _ us hl => match us, hl with | [_, _, _], _ => rfl
  have Fx14 : Fun K "wrong_line" "wrong_line" sWrong (He.fAd K dx14.at_) fdx14 := fun_of Dx14
  have mx14 : mg "wrong_line" = some (.ref (He.fAd K dx14.at_)) := He.glo_ok X G (cD.fact 12 (f := .glo "wrong_line") rfl)
  obtain ⟨fdx15, Dx15⟩ := cD.def_ 15 (d := dx15) rfl
  have bx15 := FunD.bindsN (ps := ["ahead", "line"]) Dx15 fun _ _ _ _ _ _ us hl => match us, hl with | [_, _], _ => rfl
  have Fx15 : Fun K "stands_in_shelf" "stands_in_shelf" sStands (He.fAd K dx15.at_) fdx15 := fun_of Dx15
  have mx15 : mg "stands_in_shelf" = some (.ref (He.fAd K dx15.at_)) := He.glo_ok X G (cD.fact 13 (f := .glo "stands_in_shelf") rfl)
  obtain ⟨fdx16, Dx16⟩ := cD.def_ 16 (d := dx16) rfl
  have bx16 := FunD.bindsN (ps := ["value"]) Dx16 fun _ _ _ _ _ _ us hl => match us, hl with | [_], _ => rfl
  have Fx16 : Fun K "is_name" "is_name" sIsName (He.fAd K dx16.at_) fdx16 := fun_of Dx16
  have mx16 : mg "is_name" = some (.ref (He.fAd K dx16.at_)) := He.glo_ok X G (cD.fact 14 (f := .glo "is_name") rfl)
  obtain ⟨fdx17, Dx17⟩ := cD.def_ 17 (d := dx17) rfl
  have bx17 := FunD.bindsN (ps := ["some"]) Dx17 fun _ _ _ _ _ _ us hl => match us, hl with | [_], _ => rfl
  have Fx17 : Fun K "are_names" "are_names" sAreNames (He.fAd K dx17.at_) fdx17 := fun_of Dx17
  have mx17 : mg "are_names" = some (.ref (He.fAd K dx17.at_)) := He.glo_ok X G (cD.fact 15 (f := .glo "are_names") rfl)
  obtain ⟨fdx18, Dx18⟩ := cD.def_ 18 (d := dx18) rfl
  have bx18 := FunD.bindsN (ps := ["line"]) Dx18 fun _ _ _ _ _ _ us hl => match us, hl with | [_], _ => rfl
  have Fx18 : Fun K "is_parts_line" "is_parts_line" sPartsLine (He.fAd K dx18.at_) fdx18 := fun_of Dx18
  have mx18 : mg "is_parts_line" = some (.ref (He.fAd K dx18.at_)) := He.glo_ok X G (cD.fact 16 (f := .glo "is_parts_line") rfl)
  obtain ⟨fdx19, Dx19⟩ := cD.def_ 19 (d := dx19) rfl
  have bx19 := FunD.bindsN (ps := ["parts", "word"]) Dx19 fun _ _ _ _ _ _ us hl => match us, hl with | [_, _], _ => rfl
  have Fx19 : Fun K "is_piece_word" "is_piece_word" sPieceWord (He.fAd K dx19.at_) fdx19 := fun_of Dx19
  have mx19 : mg "is_piece_word" = some (.ref (He.fAd K dx19.at_)) := He.glo_ok X G (cD.fact 17 (f := .glo "is_piece_word") rfl)
  obtain ⟨fdx20, Dx20⟩ := cD.def_ 20 (d := dx20) rfl
  have bx20 := FunD.bindsN (ps := ["lines"]) Dx20 fun _ _ _ _ _ _ us hl => match us, hl with | [_], _ => rfl
  have Fx20 : Fun K "is_whole_shelf" "is_whole_shelf" sWhole (He.fAd K dx20.at_) fdx20 := fun_of Dx20
  have mx20 : mg "is_whole_shelf" = some (.ref (He.fAd K dx20.at_)) := He.glo_ok X G (cD.fact 18 (f := .glo "is_whole_shelf") rfl)
  obtain ⟨fdx21, Dx21⟩ := cD.def_ 21 (d := dx21) rfl
  have bx21 := FunD.bindsN (ps := ["words"]) Dx21 fun _ _ _ _ _ _ us hl => match us, hl with | [_], _ => rfl
  have Fx21 : Fun K "read_pieces" "read_pieces" sReadPieces (He.fAd K dx21.at_) fdx21 := fun_of Dx21
  have mx21 : mg "read_pieces" = some (.ref (He.fAd K dx21.at_)) := He.glo_ok X G (cD.fact 19 (f := .glo "read_pieces") rfl)
  obtain ⟨fdx22, Dx22⟩ := cD.def_ 22 (d := dx22) rfl
  have bx22 := FunD.bindsN (ps := ["circle", "pieces"]) Dx22 fun _ _ _ _ _ _ us hl => match us, hl with | [_, _], _ => rfl
  have Fx22 : Fun K "all_spots" "all_spots" sAllSpots (He.fAd K dx22.at_) fdx22 := fun_of Dx22
  have mx22 : mg "all_spots" = some (.ref (He.fAd K dx22.at_)) := He.glo_ok X G (cD.fact 20 (f := .glo "all_spots") rfl)
  obtain ⟨fdx23, Dx23⟩ := cD.def_ 23 (d := dx23) rfl
  have bx23 := FunD.bindsN (ps := ["shelf", "spot"]) Dx23 fun _ _ _ _ _ _ us hl => match us, hl with | [_, _], _ => rfl
  have Fx23 : Fun K "piece_at" "piece_at" sPieceAt (He.fAd K dx23.at_) fdx23 := fun_of Dx23
  have mx23 : mg "piece_at" = some (.ref (He.fAd K dx23.at_)) := He.glo_ok X G (cD.fact 21 (f := .glo "piece_at") rfl)
  obtain ⟨fdx24, Dx24⟩ := cD.def_ 24 (d := dx24) rfl
  have bx24 := FunD.bindsN (ps := ["parts", "piece"]) Dx24 fun _ _ _ _ _ _ us hl => match us, hl with | [_, _], _ => rfl
  have Fx24 : Fun K "piece_code" "piece_code" sPieceCode (He.fAd K dx24.at_) fdx24 := fun_of Dx24
  have mx24 : mg "piece_code" = some (.ref (He.fAd K dx24.at_)) := He.glo_ok X G (cD.fact 22 (f := .glo "piece_code") rfl)
  obtain ⟨fdx25, Dx25⟩ := cD.def_ 25 (d := dx25) rfl
  have bx25 := FunD.bindsN (ps := ["pot", "names", "few"]) Dx25 fun _ _ _ _ _ _ us hl => match us, hl with | [_, _, _], _ => rfl
  have Fx25 : Fun K "_law_a_lot" "_law_a_lot" sALot (He.fAd K dx25.at_) fdx25 := fun_of Dx25
  have mx25 : mg "_law_a_lot" = some (.ref (He.fAd K dx25.at_)) := He.glo_ok X G (cD.fact 23 (f := .glo "_law_a_lot") rfl)
  obtain ⟨fdx26, Dx26⟩ := cD.def_ 26 (d := dx26) rfl
  have bx26 := FunD.bindsN (ps := ["pot", "some"]) Dx26 fun _ _ _ _ _ _ us hl => match us, hl with | [_, _], _ => rfl
  have Fx26 : Fun K "_law_of" "_law_of" sOf (He.fAd K dx26.at_) fdx26 := fun_of Dx26
  have mx26 : mg "_law_of" = some (.ref (He.fAd K dx26.at_)) := He.glo_ok X G (cD.fact 24 (f := .glo "_law_of") rfl)
  obtain ⟨fdx27, Dx27⟩ := cD.def_ 27 (d := dx27) rfl
  have bx27 := FunD.bindsN (ps := ["lore"]) Dx27 fun _ _ _ _ _ _ us hl => match us, hl with | [_], _ => rfl
  have Fx27 : Fun K "_law_answer_rows" "_law_answer_rows" sRows (He.fAd K dx27.at_) fdx27 := fun_of Dx27
  have mx27 : mg "_law_answer_rows" = some (.ref (He.fAd K dx27.at_)) := He.glo_ok X G (cD.fact 25 (f := .glo "_law_answer_rows") rfl)
  obtain ⟨fdx28, Dx28⟩ := cD.def_ 28 (d := dx28) rfl
  have bx28 := FunD.bindsN (ps := ["lore"]) Dx28 fun _ _ _ _ _ _ us hl => match us, hl with | [_], _ => rfl
  have Fx28 : Fun K "_law_records" "_law_records" sRecords (He.fAd K dx28.at_) fdx28 := fun_of Dx28
  have mx28 : mg "_law_records" = some (.ref (He.fAd K dx28.at_)) := He.glo_ok X G (cD.fact 26 (f := .glo "_law_records") rfl)
  obtain ⟨fdx29, Dx29⟩ := cD.def_ 29 (d := dx29) rfl
  have bx29 := FunD.bindsN (ps := ["lore", "name", "record"]) Dx29 fun _ _ _ _ _ _ us hl => match us, hl with | [_, _, _], _ => rfl
  have Fx29 : Fun K "_law_answer" "_law_answer" sLAnswer (He.fAd K dx29.at_) fdx29 := fun_of Dx29
  have mx29 : mg "_law_answer" = some (.ref (He.fAd K dx29.at_)) := He.glo_ok X G (cD.fact 27 (f := .glo "_law_answer") rfl)
  obtain ⟨fdx30, Dx30⟩ := cD.def_ 30 (d := dx30) rfl
  have bx30 := FunD.bindsN (ps := ["lore", "piece", "record"]) Dx30 fun _ _ _ _ _ _ us hl => match us, hl with | [_, _, _], _ => rfl
  have Fx30 : Fun K "_law_piece_value" "_law_piece_value" sValue (He.fAd K dx30.at_) fdx30 := fun_of Dx30
  have mx30 : mg "_law_piece_value" = some (.ref (He.fAd K dx30.at_)) := He.glo_ok X G (cD.fact 28 (f := .glo "_law_piece_value") rfl)
  obtain ⟨fdx31, Dx31⟩ := cD.def_ 31 (d := dx31) rfl
  have bx31 := FunD.bindsN (ps := ["pot", "lore", "table", "lot", "heard"]) Dx31 fun _ _ _ _ _ _ us hl => match us, hl with | [_, _, _, _, _], _ => rfl
  have Fx31 : Fun K "_law_near" "_law_near" sNear (He.fAd K dx31.at_) fdx31 := fun_of Dx31
  have mx31 : mg "_law_near" = some (.ref (He.fAd K dx31.at_)) := He.glo_ok X G (cD.fact 29 (f := .glo "_law_near") rfl)
  obtain ⟨fdx32, Dx32⟩ := cD.def_ 32 (d := dx32) rfl
  have bx32 := FunD.bindsN (ps := ["lore", "table", "one", "other", "lot"]) Dx32 fun _ _ _ _ _ _ us hl => match us, hl with | [_, _, _, _, _], _ => rfl
  have Fx32 : Fun K "_law_apart" "_law_apart" sApart (He.fAd K dx32.at_) fdx32 := fun_of Dx32
  have mx32 : mg "_law_apart" = some (.ref (He.fAd K dx32.at_)) := He.glo_ok X G (cD.fact 30 (f := .glo "_law_apart") rfl)
  obtain ⟨fdx33, Dx33⟩ := cD.def_ 33 (d := dx33) rfl
  have bx33 := FunD.bindsN (ps := ["pot", "value"]) Dx33 fun _ _ _ _ _ _ us hl => match us, hl with | [_, _], _ => rfl
  have Fx33 : Fun K "_law_bent" "_law_bent" sBent (He.fAd K dx33.at_) fdx33 := fun_of Dx33
  have mx33 : mg "_law_bent" = some (.ref (He.fAd K dx33.at_)) := He.glo_ok X G (cD.fact 31 (f := .glo "_law_bent") rfl)
  obtain ⟨fdx34, Dx34⟩ := cD.def_ 34 (d := dx34) rfl
  have bx34 := FunD.bindsN (ps := ["pot"]) Dx34 fun _ _ _ _ _ _ us hl => match us, hl with | [_], _ => rfl
  have Fx34 : Fun K "_law_odd" "_law_odd" sOdd (He.fAd K dx34.at_) fdx34 := fun_of Dx34
  have mx34 : mg "_law_odd" = some (.ref (He.fAd K dx34.at_)) := He.glo_ok X G (cD.fact 32 (f := .glo "_law_odd") rfl)
  obtain ⟨fdx35, Dx35⟩ := cD.def_ 35 (d := dx35) rfl
  have bx35 := FunD.bindsN (ps := ["lore", "table", "lot", "bound", "value"]) Dx35 fun _ _ _ _ _ _ us hl => match us, hl with | [_, _, _, _, _], _ => rfl
  have Fx35 : Fun K "_law_is_overruled" "_law_is_overruled" sLOver (He.fAd K dx35.at_) fdx35 := fun_of Dx35
  have mx35 : mg "_law_is_overruled" = some (.ref (He.fAd K dx35.at_)) := He.glo_ok X G (cD.fact 33 (f := .glo "_law_is_overruled") rfl)
  obtain ⟨fdx36, Dx36⟩ := cD.def_ 36 (d := dx36) rfl
  have bx36 := FunD.bindsN (ps := ["lore", "table", "lot", "bound"]) Dx36 fun _ _ _ _ _ _ us hl => match us, hl with | [_, _, _, _], _ => rfl
  have Fx36 : Fun K "_law_is_sure" "_law_is_sure" sLSure (He.fAd K dx36.at_) fdx36 := fun_of Dx36
  have mx36 : mg "_law_is_sure" = some (.ref (He.fAd K dx36.at_)) := He.glo_ok X G (cD.fact 34 (f := .glo "_law_is_sure") rfl)
  obtain ⟨fdx37, Dx37⟩ := cD.def_ 37 (d := dx37) rfl
  have bx37 := FunD.bindsN (ps := ["lore", "table", "lot", "bound", "value"]) Dx37 fun _ _ _ _ _ _ us hl => match us, hl with | [_, _, _, _, _], _ => rfl
  have Fx37 : Fun K "_law_is_open_told" "_law_is_open_told" sOpenT (He.fAd K dx37.at_) fdx37 := fun_of Dx37
  have mx37 : mg "_law_is_open_told" = some (.ref (He.fAd K dx37.at_)) := He.glo_ok X G (cD.fact 35 (f := .glo "_law_is_open_told") rfl)
  obtain ⟨fdx38, Dx38⟩ := cD.def_ 38 (d := dx38) rfl
  have bx38 := FunD.bindsN (ps := ["lore", "value"]) Dx38 fun _ _ _ _ _ _ us hl => match us, hl with | [_, _], _ => rfl
  have Fx38 : Fun K "_law_is_any_record" "_law_is_any_record" sAnyRec (He.fAd K dx38.at_) fdx38 := fun_of Dx38
  have mx38 : mg "_law_is_any_record" = some (.ref (He.fAd K dx38.at_)) := He.glo_ok X G (cD.fact 36 (f := .glo "_law_is_any_record") rfl)
  obtain ⟨fdx39, Dx39⟩ := cD.def_ 39 (d := dx39) rfl
  have bx39 := FunD.bindsN (ps := ["names", "value"]) Dx39 fun _ _ _ _ _ _ us hl => match us, hl with | [_, _], _ => rfl
  have Fx39 : Fun K "_law_is_lot" "_law_is_lot" sLIsLot (He.fAd K dx39.at_) fdx39 := fun_of Dx39
  have mx39 : mg "_law_is_lot" = some (.ref (He.fAd K dx39.at_)) := He.glo_ok X G (cD.fact 37 (f := .glo "_law_is_lot") rfl)
  obtain ⟨fdx40, Dx40⟩ := cD.def_ 40 (d := dx40) rfl
  have bx40 := FunD.bindsN (ps := ["one", "other"]) Dx40 fun _ _ _ _ _ _ us hl => match us, hl with | [_, _], _ => rfl
  have Fx40 : Fun K "_law_is_inside" "_law_is_inside" sInside (He.fAd K dx40.at_) fdx40 := fun_of Dx40
  have mx40 : mg "_law_is_inside" = some (.ref (He.fAd K dx40.at_)) := He.glo_ok X G (cD.fact 38 (f := .glo "_law_is_inside") rfl)
  obtain ⟨fdx41, Dx41⟩ := cD.def_ 41 (d := dx41) rfl
  have bx41 := FunD.bindsN (ps := ["shelf", "lot", "bound", "value"]) Dx41 fun _ _ _ _ _ _ us hl => match us, hl with | [_, _, _, _], _ => rfl
  have Fx41 : Fun K "shows_overruled" "shows_overruled" sShows (He.fAd K dx41.at_) fdx41 := fun_of Dx41
  have mx41 : mg "shows_overruled" = some (.ref (He.fAd K dx41.at_)) := He.glo_ok X G (cD.fact 39 (f := .glo "shows_overruled") rfl)
  obtain ⟨fdx42, Dx42⟩ := cD.def_ 42 (d := dx42) rfl
  have bx42 := FunD.bindsN (ps := ["circle", "value"]) Dx42 fun _ _ _ _ _ _ us hl => match us, hl with | [_, _], _ => rfl
  have Fx42 : Fun K "refuse_lot" "refuse_lot" sRefLot (He.fAd K dx42.at_) fdx42 := fun_of Dx42
  have mx42 : mg "refuse_lot" = some (.ref (He.fAd K dx42.at_)) := He.glo_ok X G (cD.fact 40 (f := .glo "refuse_lot") rfl)
  obtain ⟨fdx43, Dx43⟩ := cD.def_ 43 (d := dx43) rfl
  have bx43 := FunD.bindsN (ps := ["circle", "value"]) Dx43 fun _ _ _ _ _ _ us hl => match us, hl with | [_, _], _ => rfl
  have Fx43 : Fun K "is_lot" "is_lot" sIsLot (He.fAd K dx43.at_) fdx43 := fun_of Dx43
  have mx43 : mg "is_lot" = some (.ref (He.fAd K dx43.at_)) := He.glo_ok X G (cD.fact 41 (f := .glo "is_lot") rfl)
  obtain ⟨fdx44, Dx44⟩ := cD.def_ 44 (d := dx44) rfl
  have bx44 := FunD.bindsN (ps := ["value"]) Dx44 fun _ _ _ _ _ _ us hl => match us, hl with | [_], _ => rfl
  have Fx44 : Fun K "refuse_bound" "refuse_bound" sRefBound (He.fAd K dx44.at_) fdx44 := fun_of Dx44
  have mx44 : mg "refuse_bound" = some (.ref (He.fAd K dx44.at_)) := He.glo_ok X G (cD.fact 42 (f := .glo "refuse_bound") rfl)
  obtain ⟨fdx45, Dx45⟩ := cD.def_ 45 (d := dx45) rfl
  have bx45 := FunD.bindsN (ps := ["value", "low", "high"]) Dx45 fun _ _ _ _ _ _ us hl => match us, hl with | [_, _, _], _ => rfl
  have Fx45 : Fun K "is_from_to" "is_from_to" sFromTo (He.fAd K dx45.at_) fdx45 := fun_of Dx45
  have mx45 : mg "is_from_to" = some (.ref (He.fAd K dx45.at_)) := He.glo_ok X G (cD.fact 43 (f := .glo "is_from_to") rfl)
  obtain ⟨fdx46, Dx46⟩ := cD.def_ 46 (d := dx46) rfl
  have bx46 := FunD.bindsN (ps := ["value"]) Dx46 fun _ _ _ _ _ _ us hl => match us, hl with | [_], _ => rfl
  have Fx46 : Fun K "is_integer" "is_integer" sIsInt (He.fAd K dx46.at_) fdx46 := fun_of Dx46
  have mx46 : mg "is_integer" = some (.ref (He.fAd K dx46.at_)) := He.glo_ok X G (cD.fact 44 (f := .glo "is_integer") rfl)
  obtain ⟨fdx47, Dx47⟩ := cD.def_ 47 (d := dx47) rfl
  have bx47 := FunD.bindsN (ps := ["value", "word", "many"]) Dx47 fun _ _ _ _ _ _ us hl => match us, hl with | [_, _, _], _ => rfl
  have Fx47 : Fun K "is_told" "is_told" sIsTold (He.fAd K dx47.at_) fdx47 := fun_of Dx47
  have mx47 : mg "is_told" = some (.ref (He.fAd K dx47.at_)) := He.glo_ok X G (cD.fact 45 (f := .glo "is_told") rfl)
  obtain ⟨fdx48, Dx48⟩ := cD.def_ 48 (d := dx48) rfl
  have bx48 := FunD.bindsN (ps := ["value", "many"]) Dx48 fun _ _ _ _ _ _ us hl => match us, hl with | [_, _], _ => rfl
  have Fx48 : Fun K "is_row" "is_row" sIsRow (He.fAd K dx48.at_) fdx48 := fun_of Dx48
  have mx48 : mg "is_row" = some (.ref (He.fAd K dx48.at_)) := He.glo_ok X G (cD.fact 46 (f := .glo "is_row") rfl)
  obtain ⟨fdx49, Dx49⟩ := cD.def_ 49 (d := dx49) rfl
  have bx49 := FunD.bindsN (ps := ["shelf", "lot", "bound", "record", "other", "doubted"]) Dx49 fun _ _ _ _ _ _ us hl => match us, hl with | [_, _, _, _, _, _], _ => rfl
  have Fx49 : Fun K "is_open" "is_open" sIsOpen (He.fAd K dx49.at_) fdx49 := fun_of Dx49
  have mx49 : mg "is_open" = some (.ref (He.fAd K dx49.at_)) := He.glo_ok X G (cD.fact 47 (f := .glo "is_open") rfl)
  obtain ⟨fdx50, Dx50⟩ := cD.def_ 50 (d := dx50) rfl
  have bx50 := FunD.bindsN (ps := ["shelf", "value"]) Dx50 fun _ _ _ _ _ _ us hl => match us, hl with | [_, _], _ => rfl
  have Fx50 : Fun K "is_record" "is_record" sIsRecord (He.fAd K dx50.at_) fdx50 := fun_of Dx50
  have mx50 : mg "is_record" = some (.ref (He.fAd K dx50.at_)) := He.glo_ok X G (cD.fact 48 (f := .glo "is_record") rfl)
  obtain ⟨fdx51, Dx51⟩ := cD.def_ 51 (d := dx51) rfl
  have bx51 := FunD.bindsN (ps := ["value", "many"]) Dx51 fun _ _ _ _ _ _ us hl => match us, hl with | [_, _], _ => rfl
  have Fx51 : Fun K "are_bits" "are_bits" sAreBits (He.fAd K dx51.at_) fdx51 := fun_of Dx51
  have mx51 : mg "are_bits" = some (.ref (He.fAd K dx51.at_)) := He.glo_ok X G (cD.fact 49 (f := .glo "are_bits") rfl)
  obtain ⟨fdx52, Dx52⟩ := cD.def_ 52 (d := dx52) rfl
  have bx52 := FunD.bindsN (ps := ["lot", "other"]) Dx52 fun _ _ _ _ _ _ us hl => match us, hl with | [_, _], _ => rfl
  have Fx52 : Fun K "is_within" "is_within" sWithin (He.fAd K dx52.at_) fdx52 := fun_of Dx52
  have mx52 : mg "is_within" = some (.ref (He.fAd K dx52.at_)) := He.glo_ok X G (cD.fact 50 (f := .glo "is_within") rfl)
  obtain ⟨fdx53, Dx53⟩ := cD.def_ 53 (d := dx53) rfl
  have bx53 := FunD.bindsN (ps := ["lot", "other"]) Dx53 fun _ _ _ _ _ _ us hl => match us, hl with | [_, _], _ => rfl
  have Fx53 : Fun K "less" "less" sPLess (He.fAd K dx53.at_) fdx53 := fun_of Dx53
  have mx53 : mg "less" = some (.ref (He.fAd K dx53.at_)) := He.glo_ok X G (cD.fact 51 (f := .glo "less") rfl)
  obtain ⟨fdx54, Dx54⟩ := cD.def_ 54 (d := dx54) rfl
  have bx54 := FunD.bindsN (ps := ["shelf", "keeper", "record"]) Dx54 fun _ _ _ _ _ _ us hl => match us, hl with | [_, _, _], _ => rfl
  have Fx54 : Fun K "answer" "answer" sAnswer (He.fAd K dx54.at_) fdx54 := fun_of Dx54
  have mx54 : mg "answer" = some (.ref (He.fAd K dx54.at_)) := He.glo_ok X G (cD.fact 52 (f := .glo "answer") rfl)
  obtain ⟨fdx55, Dx55⟩ := cD.def_ 55 (d := dx55) rfl
  have bx55 := FunD.bindsN (ps := ["shelf", "value"]) Dx55 fun _ _ _ _ _ _ us hl => match us, hl with | [_, _], _ => rfl
  have Fx55 : Fun K "refuse_keeper" "refuse_keeper" sRefKeeper (He.fAd K dx55.at_) fdx55 := fun_of Dx55
  have mx55 : mg "refuse_keeper" = some (.ref (He.fAd K dx55.at_)) := He.glo_ok X G (cD.fact 53 (f := .glo "refuse_keeper") rfl)
  obtain ⟨fdx56, Dx56⟩ := cD.def_ 56 (d := dx56) rfl
  have bx56 := FunD.bindsN (ps := ["self", "value"]) Dx56 fun _ _ _ _ _ _ us hl => match us, hl with | [_, _], _ => rfl
  have Fx56 : Fun K "__contains__" "Circle.__contains__" sCircIn (He.fAd K dx56.at_) fdx56 := fun_of Dx56
  obtain ⟨fdx57, Dx57⟩ := cD.def_ 57 (d := dx57) rfl
  have bx57 := FunD.bindsN (ps := ["shelf", "value"]) Dx57 fun _ _ _ _ _ _ us hl => match us, hl with | [_, _], _ => rfl
  have Fx57 : Fun K "refuse_record" "refuse_record" sRefRecord (He.fAd K dx57.at_) fdx57 := fun_of Dx57
  have mx57 : mg "refuse_record" = some (.ref (He.fAd K dx57.at_)) := He.glo_ok X G (cD.fact 54 (f := .glo "refuse_record") rfl)
  obtain ⟨fdx58, Dx58⟩ := cD.def_ 58 (d := dx58) rfl
  have bx58 := FunD.bindsN (ps := ["shelf", "piece", "record"]) Dx58 fun _ _ _ _ _ _ us hl => match us, hl with | [_, _, _], _ => rfl
  have Fx58 : Fun K "worth" "worth" sWorth (He.fAd K dx58.at_) fdx58 := fun_of Dx58
  have mx58 : mg "worth" = some (.ref (He.fAd K dx58.at_)) := He.glo_ok X G (cD.fact 55 (f := .glo "worth") rfl)
  obtain ⟨fdx59, Dx59⟩ := cD.def_ 59 (d := dx59) rfl
  have bx59 := FunD.bindsN (ps := ["shelf", "lot", "bound"]) Dx59 fun _ _ _ _ _ _ us hl => match us, hl with | [_, _, _], _ => rfl
  have Fx59 : Fun K "is_sure" "is_sure" sIsSure (He.fAd K dx59.at_) fdx59 := fun_of Dx59
  have mx59 : mg "is_sure" = some (.ref (He.fAd K dx59.at_)) := He.glo_ok X G (cD.fact 56 (f := .glo "is_sure") rfl)
  obtain ⟨fdx60, Dx60⟩ := cD.def_ 60 (d := dx60) rfl
  have bx60 := FunD.bindsN (ps := ["shelf", "lot", "bound"]) Dx60 fun _ _ _ _ _ _ us hl => match us, hl with | [_, _, _], _ => rfl
  have Fx60 : Fun K "first_doubted" "first_doubted" sDoubted (He.fAd K dx60.at_) fdx60 := fun_of Dx60
  have mx60 : mg "first_doubted" = some (.ref (He.fAd K dx60.at_)) := He.glo_ok X G (cD.fact 57 (f := .glo "first_doubted") rfl)
  obtain ⟨fdx61, Dx61⟩ := cD.def_ 61 (d := dx61) rfl
  have bx61 := FunD.bindsN (ps := ["circle"]) Dx61 fun _ _ _ _ _ _ us hl => match us, hl with | [_], _ => rfl
  have Fx61 : Fun K "lots" "lots" sLots (He.fAd K dx61.at_) fdx61 := fun_of Dx61
  have mx61 : mg "lots" = some (.ref (He.fAd K dx61.at_)) := He.glo_ok X G (cD.fact 58 (f := .glo "lots") rfl)
  obtain ⟨fdx62, Dx62⟩ := cD.def_ 62 (d := dx62) rfl
  have bx62 := FunD.bindsN (ps := ["self"]) Dx62 fun _ _ _ _ _ _ us hl => match us, hl with | [_], _ => rfl
  have Fx62 : Fun K "__len__" "Circle.__len__" sCircLen (He.fAd K dx62.at_) fdx62 := fun_of Dx62
  obtain ⟨fdx63, Dx63⟩ := cD.def_ 63 (d := dx63) rfl
  have bx63 := FunD.bindsN (ps := ["shelf", "lot"]) Dx63 fun _ _ _ _ _ _ us hl => match us, hl with | [_, _], _ => rfl
  have Fx63 : Fun K "brings_back" "brings_back" sBack (He.fAd K dx63.at_) fdx63 := fun_of Dx63
  have mx63 : mg "brings_back" = some (.ref (He.fAd K dx63.at_)) := He.glo_ok X G (cD.fact 59 (f := .glo "brings_back") rfl)
  obtain ⟨fdx64, Dx64⟩ := cD.def_ 64 (d := dx64) rfl
  have bx64 := FunD.bindsN (ps := ["shelf", "spots"]) Dx64 fun _ _ _ _ _ _ us hl => match us, hl with | [_, _], _ => rfl
  have Fx64 : Fun K "tells_all" "tells_all" sTellsAll (He.fAd K dx64.at_) fdx64 := fun_of Dx64
  have mx64 : mg "tells_all" = some (.ref (He.fAd K dx64.at_)) := He.glo_ok X G (cD.fact 60 (f := .glo "tells_all") rfl)
  obtain ⟨fdx65, Dx65⟩ := cD.def_ 65 (d := dx65) rfl
  have bx65 := FunD.bindsN (ps := ["shelf", "spots"]) Dx65 fun _ _ _ _ _ _ us hl => match us, hl with | [_, _], _ => rfl
  have Fx65 : Fun K "reach" "reach" sReach (He.fAd K dx65.at_) fdx65 := fun_of Dx65
  have mx65 : mg "reach" = some (.ref (He.fAd K dx65.at_)) := He.glo_ok X G (cD.fact 61 (f := .glo "reach") rfl)
  obtain ⟨fdx66, Dx66⟩ := cD.def_ 66 (d := dx66) rfl
  have bx66 := FunD.bindsN (ps := ["rows"]) Dx66 fun _ _ _ _ _ _ us hl => match us, hl with | [_], _ => rfl
  have Fx66 : Fun K "span" "span" sSpan (He.fAd K dx66.at_) fdx66 := fun_of Dx66
  have mx66 : mg "span" = some (.ref (He.fAd K dx66.at_)) := He.glo_ok X G (cD.fact 62 (f := .glo "span") rfl)
  obtain ⟨fdx67, Dx67⟩ := cD.def_ 67 (d := dx67) rfl
  have bx67 := FunD.bindsN (ps := ["shelf", "lot"]) Dx67 fun _ _ _ _ _ _ us hl => match us, hl with | [_, _], _ => rfl
  have Fx67 : Fun K "spots_of" "spots_of" sSpotsOf (He.fAd K dx67.at_) fdx67 := fun_of Dx67
  have mx67 : mg "spots_of" = some (.ref (He.fAd K dx67.at_)) := He.glo_ok X G (cD.fact 63 (f := .glo "spots_of") rfl)
  obtain ⟨fdx68, Dx68⟩ := cD.def_ 68 (d := dx68) rfl
  have bx68 := FunD.bindsN (ps := ["shelf", "lot", "bound"]) Dx68 fun _ _ _ _ _ _ us hl => match us, hl with | [_, _, _], _ => rfl
  have Fx68 : Fun K "overruled" "overruled" sOver (He.fAd K dx68.at_) fdx68 := fun_of Dx68
  have mx68 : mg "overruled" = some (.ref (He.fAd K dx68.at_)) := He.glo_ok X G (cD.fact 64 (f := .glo "overruled") rfl)
  obtain ⟨fdx69, Dx69⟩ := cD.def_ 69 (d := dx69) rfl
  have bx69 := FunD.bindsN (ps := ["shelf", "lot"]) Dx69 fun _ _ _ _ _ _ us hl => match us, hl with | [_, _], _ => rfl
  have Fx69 : Fun K "lost_record" "lost_record" sLostRec (He.fAd K dx69.at_) fdx69 := fun_of Dx69
  have mx69 : mg "lost_record" = some (.ref (He.fAd K dx69.at_)) := He.glo_ok X G (cD.fact 65 (f := .glo "lost_record") rfl)
  obtain ⟨fdx70, Dx70⟩ := cD.def_ 70 (d := dx70) rfl
  have bx70 := FunD.bindsN (ps := ["shelf"]) Dx70 fun _ _ _ _ _ _ us hl => match us, hl with | [_], _ => rfl
  have Fx70 : Fun K "records" "records" sRecs (He.fAd K dx70.at_) fdx70 := fun_of Dx70
  have mx70 : mg "records" = some (.ref (He.fAd K dx70.at_)) := He.glo_ok X G (cD.fact 66 (f := .glo "records") rfl)
  obtain ⟨fdx71, Dx71⟩ := cD.def_ 71 (d := dx71) rfl
  have bx71 := FunD.bindsN (ps := ["many"]) Dx71 fun _ _ _ _ _ _ us hl => match us, hl with | [_], _ => rfl
  have Fx71 : Fun K "all_bits" "all_bits" sAllBits (He.fAd K dx71.at_) fdx71 := fun_of Dx71
  have mx71 : mg "all_bits" = some (.ref (He.fAd K dx71.at_)) := He.glo_ok X G (cD.fact 67 (f := .glo "all_bits") rfl)
  obtain ⟨fdx72, Dx72⟩ := cD.def_ 72 (d := dx72) rfl
  have bx72 := FunD.bindsN (ps := ["shelf", "lot", "record"]) Dx72 fun _ _ _ _ _ _ us hl => match us, hl with | [_, _, _], _ => rfl
  have Fx72 : Fun K "is_lost" "is_lost" sIsLost (He.fAd K dx72.at_) fdx72 := fun_of Dx72
  have mx72 : mg "is_lost" = some (.ref (He.fAd K dx72.at_)) := He.glo_ok X G (cD.fact 68 (f := .glo "is_lost") rfl)
  obtain ⟨fdx73, Dx73⟩ := cD.def_ 73 (d := dx73) rfl
  have bx73 := FunD.bindsN (ps := ["shelf", "lot", "record"]) Dx73 fun _ _ _ _ _ _ us hl => match us, hl with | [_, _, _], _ => rfl
  have Fx73 : Fun K "is_silent" "is_silent" sIsSilent (He.fAd K dx73.at_) fdx73 := fun_of Dx73
  have mx73 : mg "is_silent" = some (.ref (He.fAd K dx73.at_)) := He.glo_ok X G (cD.fact 69 (f := .glo "is_silent") rfl)
  obtain ⟨fdx74, Dx74⟩ := cD.def_ 74 (d := dx74) rfl
  have bx74 := FunD.bindsN (ps := ["script", "limit"]) Dx74 fun _ _ _ _ _ _ us hl => match us, hl with | [_, _], _ => rfl
  have Fx74 : Fun K "_law_cells" "_law_cells" sCells (He.fAd K dx74.at_) fdx74 := fun_of Dx74
  have mx74 : mg "_law_cells" = some (.ref (He.fAd K dx74.at_)) := He.glo_ok X G (cD.fact 70 (f := .glo "_law_cells") rfl)
  obtain ⟨fdx75, Dx75⟩ := cD.def_ 75 (d := dx75) rfl
  have bx75 := FunD.bindsN (ps := ["script", "place"]) Dx75 fun _ _ _ _ _ _ us hl => match us, hl with | [_, _], _ => rfl
  have Fx75 : Fun K "_law_pot" "_law_pot" sPot (He.fAd K dx75.at_) fdx75 := fun_of Dx75
  have mx75 : mg "_law_pot" = some (.ref (He.fAd K dx75.at_)) := He.glo_ok X G (cD.fact 71 (f := .glo "_law_pot") rfl)
  have mCi : mg "Circle" = some (.ref (gC K)) := He.glo_ok X G (cD.fact 72 (f := .glo "Circle") rfl)
  have mSh : mg "Shelf" = some (.ref (gS K)) := He.glo_ok X G (cD.fact 73 (f := .glo "Shelf") rfl)
  have T : Bl mg := ⟨He.free_ok X G (cD.fact 74 (f := .free "int") rfl), He.free_ok X G (cD.fact 75 (f := .free "abs") rfl), He.free_ok X G (cD.fact 76 (f := .free "len") rfl), He.free_ok X G (cD.fact 77 (f := .free "list") rfl), He.free_ok X G (cD.fact 78 (f := .free "range") rfl), He.free_ok X G (cD.fact 79 (f := .free "max") rfl), He.free_ok X G (cD.fact 80 (f := .free "min") rfl), He.free_ok X G (cD.fact 81 (f := .free "all") rfl), He.free_ok X G (cD.fact 82 (f := .free "any") rfl), He.free_ok X G (cD.fact 83 (f := .free "repr") rfl), He.free_ok X G (cD.fact 84 (f := .free "isinstance") rfl), He.free_ok X G (cD.fact 85 (f := .free "enumerate") rfl), He.free_ok X G (cD.fact 86 (f := .free "ValueError") rfl)⟩
  have Cc : Cn mg := ⟨He.free_ok X G (cD.fact 87 (f := .free "str") rfl), He.free_ok X G (cD.fact 88 (f := .free "tuple") rfl), He.free_ok X G (cD.fact 89 (f := .free "set") rfl), He.free_ok X G (cD.fact 90 (f := .free "sum") rfl), He.free_ok X G (cD.fact 91 (f := .free "sorted") rfl), He.free_ok X G (cD.fact 92 (f := .free "zip") rfl), He.free_ok X G (cD.fact 93 (f := .free "dict") rfl), He.str_ok X G (cD.fact 95 (f := .str "LETTERS" "abcdefghijklmnopqrstuvwxyz") rfl), He.int_ok X G (cD.fact 96 (f := .int "MOST_PARTS" 4) rfl), He.int_ok X G (cD.fact 97 (f := .int "LEAST_KEEPERS" 2) rfl), He.int_ok X G (cD.fact 98 (f := .int "MOST_KEEPERS" 6) rfl), He.int_ok X G (cD.fact 99 (f := .int "MOST_PIECES" 2) rfl)⟩
  obtain ⟨t3, h3⟩ := He.int_ok X G (cD.fact 100 (f := .int "MOST_LIARS" 3) rfl)
  have hB : mg "bool" = none := He.free_ok X G (cD.fact 94 (f := .free "bool") rfl)
  have clC : Cls K (gC K) := He.cls_ok (cD.fact 101 (f := .cls "Circle") rfl)
  have clS : Cls K (gS K) := He.cls_ok (cD.fact 102 (f := .cls "Shelf") rfl)
  have CC : CircC K (gC K) (He.fAd K dx13.at_) := ⟨clC, He.noat_ok (cD.fact 103 (f := .noat "Circle" "names") rfl), He.mkr_ok (cD.fact 110 (f := .mkr "Circle") rfl)⟩
  have SC : ShC K (gS K) (He.fAd K dx2.at_) := ⟨clS, He.noat_ok (cD.fact 104 (f := .noat "Shelf" "text") rfl), He.noat_ok (cD.fact 105 (f := .noat "Shelf" "parts") rfl), He.noat_ok (cD.fact 106 (f := .noat "Shelf" "circle") rfl), He.noat_ok (cD.fact 107 (f := .noat "Shelf" "pieces") rfl), He.noat_ok (cD.fact 108 (f := .noat "Shelf" "spots") rfl), He.noat_ok (cD.fact 109 (f := .noat "Shelf" "codes") rfl), He.mkr_ok (cD.fact 111 (f := .mkr "Shelf") rfl)⟩
  obtain ⟨pcontains, rcontains, _⟩ := ba3 (cD.fact 112 (f := .meth "Circle" "__contains__") rfl)
  have Mcontains : MethC K (gC K) "__contains__" (He.fAd K dx56.at_) := ⟨He.eqO_ok pcontains, rcontains⟩
  obtain ⟨plen, rlen, _⟩ := ba3 (cD.fact 113 (f := .meth "Circle" "__len__") rfl)
  have Mlen : MethC K (gC K) "__len__" (He.fAd K dx62.at_) := ⟨He.eqO_ok plen, rlen⟩
  have e := hfa.symm.trans mx0
  cases e
  have b := FunD.bindsA (ps := ["script"]) Dx0 fun _ _ _ _ _ _ us hl => match us, hl with | [_], _ => rfl
  refine ⟨fdx0, fun s v => b s [v] rfl, fun base _ _ => ?_⟩
  have Gshelf := ok_shelf (P := P) (w := w) (K := K) (mg := mg) (base := base) Fx4 T Cc.tuple Fx5 bx5 mx5 Fx6 bx6 mx6 Fx7 bx7 mx7 Fx8 bx8 mx8 Fx9 bx9 mx9 Fx10 bx10 mx10
  have Gtake := ok_take (P := P) (w := w) (K := K) (mg := mg) (base := base) Fx5 T
  have Gwith := ok_with (P := P) (w := w) (K := K) (mg := mg) (base := base) Fx11 T Cc.dict
  have Gthick := ok_thick (P := P) (w := w) (K := K) (mg := mg) (base := base) Fx3 T Cc.tuple Gshelf ⟨Fx4.kp, bx4, mx4⟩ Gtake ⟨Fx5.kp, bx5, mx5⟩ Gwith ⟨Fx11.kp, bx11, mx11⟩
  have Gtext := ok_text (P := P) (w := w) (K := K) (mg := mg) (base := base) Fx12 T Cc.zip
  have Gstands := ok_stands (P := P) (w := w) (K := K) (mg := mg) (base := base) Fx15 T Cc Fx16 bx16 mx16 Fx17 bx17 mx17 Fx18 bx18 mx18 Fx19 bx19 mx19
  have Gwhole := ok_whole (P := P) (w := w) (K := K) (mg := mg) (base := base) Fx20 T Cc
  have Gwrong := ok_wrong (P := P) (w := w) (K := K) (mg := mg) (base := base) Fx14 T Cc Gstands Fx15.kp bx15 Gwhole Fx20.kp bx20
  have GcircI := ok_circI (P := P) (w := w) (K := K) (mg := mg) (base := base) (C := gC K) Fx13 T Cc CC Fx16 bx16 mx16 Fx17 bx17 mx17
  have GreadPieces := ok_readPieces (P := P) (w := w) (K := K) (mg := mg) (base := base) Fx21 T Cc
  have GallSpots := ok_allSpots (P := P) (w := w) (K := K) (mg := mg) (base := base) (C := gC K) Fx22 T Cc CC
  have GpieceAt := ok_pieceAt (P := P) (w := w) (K := K) (mg := mg) (base := base) (C := gC K) (CS := gS K) Fx23 CC SC
  have GpieceCode := ok_pieceCode (P := P) (w := w) (K := K) (mg := mg) (base := base) Fx24 Cc
  have GshelfI := ok_shelfI (P := P) (w := w) (K := K) (mg := mg) (base := base) (C := gC K) (CS := gS K) (fN := 0) Fx2 T Cc CC SC Gwrong Fx14.kp bx14 mx14 mx15 mx20 GcircI bx13 mCi GreadPieces Fx21.kp bx21 mx21 GallSpots Fx22.kp bx22 mx22 GpieceAt Fx23.kp bx23 mx23 GpieceCode Fx24.kp bx24 mx24
  have GaLot := ok_aLot (P := P) (w := w) (K := K) (mg := mg) (base := base) Fx25 T Cc.tuple Fx5 bx5 mx5 Fx6 bx6 mx6 Fx7 bx7 mx7
  have GofA := ok_ofA (P := P) (w := w) (K := K) (mg := mg) (base := base) Fx26 T Fx5 bx5 mx5
  have Grecords := ok_records (P := P) (w := w) (K := K) (mg := mg) (base := base) Fx28
  have Glanswer := ok_lanswer (P := P) (w := w) (K := K) (mg := mg) (base := base) Fx29 T Cc Fx30 bx30 mx30
  have Grows := ok_rows (P := P) (w := w) (K := K) (mg := mg) (base := base) Fx27 T Grecords ⟨Fx28.kp, bx28, mx28⟩ Glanswer ⟨Fx29.kp, bx29, mx29⟩
  have Gapart := ok_apart (P := P) (w := w) (K := K) (mg := mg) (base := base) Fx32 Cc
  have Gbent := ok_bent (P := P) (w := w) (K := K) (mg := mg) (base := base) Fx33 T Cc hB ⟨Fx33.kp, bx33, mx33⟩ Gtake ⟨Fx5.kp, bx5, mx5⟩ GofA ⟨Fx26.kp, bx26, mx26⟩
  have Godd := ok_odd (P := P) (w := w) (K := K) (mg := mg) (base := base) Fx34 T Fx5 bx5 mx5 Fx26 bx26 mx26
  have Gnear := ok_near (P := P) (w := w) (K := K) (mg := mg) (base := base) Fx31 T Grecords ⟨Fx28.kp, bx28, mx28⟩ GofA ⟨Fx26.kp, bx26, mx26⟩ Gapart ⟨Fx32.kp, bx32, mx32⟩ GaLot ⟨Fx25.kp, bx25, mx25⟩ Gbent ⟨Fx33.kp, bx33, mx33⟩ Godd ⟨Fx34.kp, bx34, mx34⟩
  have GlSure := ok_lSure (P := P) (w := w) (K := K) (mg := mg) (base := base) Fx36 T Grecords ⟨Fx28.kp, bx28, mx28⟩ Gapart ⟨Fx32.kp, bx32, mx32⟩
  have GanyV := ok_anyV (P := P) (w := w) (K := K) (mg := mg) (base := base) Fx38 T Cc Grecords ⟨Fx28.kp, bx28, mx28⟩
  have GlotOf := ok_lotOf (P := P) (w := w) (K := K) (mg := mg) (base := base) Fx7 Cc.tuple
  have GlIsLotV := ok_lIsLotV (P := P) (w := w) (K := K) (mg := mg) (base := base) Fx39 T Cc GlotOf ⟨Fx7.kp, bx7, mx7⟩
  have Ginside := ok_inside (P := P) (w := w) (K := K) (mg := mg) (base := base) Fx40 T
  have GopenTV := ok_openTV (P := P) (w := w) (K := K) (mg := mg) (base := base) Fx37 T GanyV ⟨Fx38.kp, bx38, mx38⟩ GlIsLotV ⟨Fx39.kp, bx39, mx39⟩ Ginside ⟨Fx40.kp, bx40, mx40⟩ Gapart ⟨Fx32.kp, bx32, mx32⟩
  have GlOverV := ok_lOverV (P := P) (w := w) (K := K) (mg := mg) (base := base) Fx35 T Cc GlSure ⟨Fx36.kp, bx36, mx36⟩ GopenTV ⟨Fx37.kp, bx37, mx37⟩
  have GrefLot := ok_refLot (P := P) (w := w) (K := K) (mg := mg) (base := base) (C := gC K) Fx42 T Cc CC Fx43 bx43 mx43
  have GisInt := ok_isInt (P := P) (w := w) (K := K) (mg := mg) (base := base) Fx46 T hB
  have GfromTo := ok_fromTo (P := P) (w := w) (K := K) (mg := mg) (base := base) Fx45 T GisInt ⟨Fx46.kp, bx46, mx46⟩
  have GrefBound := ok_refBound (P := P) (w := w) (K := K) (mg := mg) (base := base) Fx44 h3 GfromTo ⟨Fx45.kp, bx45, mx45⟩
  have GisRowV := ok_isRowV (P := P) (w := w) (K := K) (mg := mg) (base := base) Fx48 T Cc
  have GisToldV := ok_isToldV (P := P) (w := w) (K := K) (mg := mg) (base := base) Fx47 GisRowV ⟨Fx48.kp, bx48, mx48⟩
  have GareBitsV := ok_areBitsV (P := P) (w := w) (K := K) (mg := mg) (base := base) Fx51 T Cc
  have GisRecordV := ok_isRecordV (P := P) (w := w) (K := K) (mg := mg) (base := base) (C := gC K) (CS := gS K) Fx50 T SC GareBitsV ⟨Fx51.kp, bx51, mx51⟩
  have GisLotV := ok_isLotV (P := P) (w := w) (K := K) (mg := mg) (base := base) (C := gC K) Fx43 T Cc CC
  have Gwithin := ok_within (P := P) (w := w) (K := K) (mg := mg) (base := base) Fx52 T
  have Gpless := ok_pless (P := P) (w := w) (K := K) (mg := mg) (base := base) Fx53 Cc.tuple
  have GrefKeeper := ok_refKeeper (P := P) (w := w) (K := K) (mg := mg) (base := base) (C := gC K) (CS := gS K) Fx55 CC SC Mcontains Fx56 bx56
  have GrefRecord := ok_refRecord (P := P) (w := w) (K := K) (mg := mg) (base := base) (C := gC K) (CS := gS K) Fx57 T Cc SC Fx51 bx51 mx51 Fx50 bx50 mx50
  have Gworth := ok_worth (P := P) (w := w) (K := K) (mg := mg) (base := base) (C := gC K) (CS := gS K) Fx58 T Cc SC
  have Ganswer := ok_answer (P := P) (w := w) (K := K) (mg := mg) (base := base) (C := gC K) (CS := gS K) Fx54 CC SC GrefKeeper Fx55.kp bx55 mx55 GrefRecord Fx57.kp bx57 mx57 Gworth Fx58.kp bx58 mx58
  have GisOpenV := ok_isOpenV (P := P) (w := w) (K := K) (mg := mg) (base := base) (C := gC K) (CS := gS K) Fx49 T SC GisRecordV ⟨Fx50.kp, bx50, mx50⟩ GisLotV ⟨Fx43.kp, bx43, mx43⟩ Gwithin ⟨Fx52.kp, bx52, mx52⟩ Gpless ⟨Fx53.kp, bx53, mx53⟩ Ganswer ⟨Fx54.kp, bx54, mx54⟩
  have Glots := ok_lots (P := P) (w := w) (K := K) (mg := mg) (base := base) (C := gC K) Fx61 T Cc CC Mlen Fx62 bx62
  have Greach := ok_reach (P := P) (w := w) (K := K) (mg := mg) (base := base) (C := gC K) (CS := gS K) Fx65 T Cc SC Fx66 bx66 mx66
  have GtellsAll := ok_tellsAll (P := P) (w := w) (K := K) (mg := mg) (base := base) (C := gC K) (CS := gS K) Fx64 T SC Greach ⟨Fx65.kp, bx65, mx65⟩
  have GspotsOf := ok_spotsOf (P := P) (w := w) (K := K) (mg := mg) (base := base) (C := gC K) (CS := gS K) Fx67 T Cc SC
  have Gback := ok_back (P := P) (w := w) (K := K) (mg := mg) (base := base) (C := gC K) (CS := gS K) Fx63 GtellsAll ⟨Fx64.kp, bx64, mx64⟩ GspotsOf ⟨Fx67.kp, bx67, mx67⟩
  have Gdoubted := ok_doubted (P := P) (w := w) (K := K) (mg := mg) (base := base) (C := gC K) (CS := gS K) Fx60 T CC SC Glots ⟨Fx61.kp, bx61, mx61⟩ Gwithin ⟨Fx52.kp, bx52, mx52⟩ Gback ⟨Fx63.kp, bx63, mx63⟩ Gpless ⟨Fx53.kp, bx53, mx53⟩
  have GisSure := ok_isSure (P := P) (w := w) (K := K) (mg := mg) (base := base) (C := gC K) (CS := gS K) Fx59 Gdoubted ⟨Fx60.kp, bx60, mx60⟩
  have GshowsV := ok_showsV (P := P) (w := w) (K := K) (mg := mg) (base := base) (C := gC K) (CS := gS K) Fx41 SC GrefLot ⟨Fx42.kp, bx42, mx42⟩ GrefBound ⟨Fx44.kp, bx44, mx44⟩ GisToldV ⟨Fx47.kp, bx47, mx47⟩ GisOpenV ⟨Fx49.kp, bx49, mx49⟩ GisSure ⟨Fx59.kp, bx59, mx59⟩
  have Grecs := ok_recs (P := P) (w := w) (K := K) (mg := mg) (base := base) (C := gC K) (CS := gS K) Fx70 T SC Fx71 bx71 mx71
  have GisSilent := ok_isSilent (P := P) (w := w) (K := K) (mg := mg) (base := base) (C := gC K) (CS := gS K) Fx73 Ganswer Fx54.kp bx54 mx54
  have GisLost := ok_isLost (P := P) (w := w) (K := K) (mg := mg) (base := base) (C := gC K) (CS := gS K) Fx72 GisSilent Fx73.kp bx73 mx73
  have GlostRec := ok_lostRec (P := P) (w := w) (K := K) (mg := mg) (base := base) (C := gC K) (CS := gS K) Fx69 Grecs Fx70.kp bx70 mx70 GisLost Fx72.kp bx72 mx72
  have Gover := ok_over (P := P) (w := w) (K := K) (mg := mg) (base := base) (C := gC K) (CS := gS K) Fx68 T CC SC GrefLot ⟨Fx42.kp, bx42, mx42⟩ GrefBound ⟨Fx44.kp, bx44, mx44⟩ Gdoubted ⟨Fx60.kp, bx60, mx60⟩ GlostRec ⟨Fx69.kp, bx69, mx69⟩ Gpless ⟨Fx53.kp, bx53, mx53⟩
  have Gright := ok_right (P := P) (w := w) (K := K) (mg := mg) (base := base) (C := gC K) (CS := gS K) Fx1 T SC mSh Gthick ⟨Fx3.kp, bx3, mx3⟩ Gtext ⟨Fx12.kp, bx12, mx12⟩ GshelfI bx2 GaLot ⟨Fx25.kp, bx25, mx25⟩ GofA ⟨Fx26.kp, bx26, mx26⟩ Grows ⟨Fx27.kp, bx27, mx27⟩ Gtake ⟨Fx5.kp, bx5, mx5⟩ Gnear ⟨Fx31.kp, bx31, mx31⟩ GlOverV ⟨Fx35.kp, bx35, mx35⟩ GshowsV ⟨Fx41.kp, bx41, mx41⟩ Gover ⟨Fx68.kp, bx68, mx68⟩
  exact ok_law (P := P) (w := w) (K := K) (mg := mg) (base := base) Fx0 T Gright Fx1.kp bx1 mx1 Fx74 bx74 mx74 Fx75 bx75 mx75
theorem walkY {l : PySem.W.OpenLaw} {n lev : Nat} {q : Program} {loose : List Str} {XP : (Str → Option Value) → Heap → Prop} {YP : World → Heap → Prop} {d : DefRec} {sp : PySem.W.Frag → Sp} {x : Str}
    (hn : l.most = some n) (hn2 : n ≤ sizeLine) (hdf : d.params.defaults = []) (room : Room lev callerA)
    (F : ∀ (w : World) (mg : Str → Option Value) (fa : Addr) (h : Heap), YP w h → h.Ns mainGlobals mg → mg d.name = some (.ref fa) →
      ∃ (K : PySem.W.Frag) (fD : FuncData), K.In h ∧ (∀ (s : Shared) (u : Value), BindsTo s fD ⟨[u], []⟩ [(x, u)]) ∧
        ∀ base : Heap, K.In base → base.Ns mainGlobals mg → FnG l.prog w K mg base lev fa fD [x] (sp K))
    (hsp : ∀ (K : PySem.W.Frag) (H : Hp) (a : Addr) (ns : List Int), ns.length ≤ n → Only H → SqL K H a (ns.map V.int) → sp K [.ref a] H (fun v _ => v = .bl true) E0) :
    PySem.W.WalkO q loose XP YP l.row.toRowW d [] (fun f vs => PySem.call f vs) := by
  refine Att.attach_call hn hdf ?_
  intro w s₀ s₁ mg mb fa o pm cd doc a vs ns G Y ho hd hcd hmg hobj hints hlen hg
  obtain ⟨K, fD, KX, hb, hF⟩ := F w mg fa _ Y G.T.g hmg
  exact gcall KX G.T.g G.T.b G.T.builtins G.T.nolimit hg hobj hints (Nat.le_trans hlen hn2) room hF hb fun H hO hS => hsp _ H a ns hlen hO hS
abbrev R0 : PySem.W.OpenRow := PySem.W.OpenLaw.row PySem.Challenge.rw_lotkeepers_k30_what_shows_lots_that_over
def ob (s : PySem.W.SharedT) : He.AlD × Bool := obK (HandSHeadRun.getT s)
theorem ob_eq (s : PySem.W.SharedT) : ob s = hk.obs s.abs := by
  have e : HandSHeadRun.getT s = s.abs.heap.get? := funext (HandSHeadRun.getT_eq s)
  show obK (HandSHeadRun.getT s) = obK s.abs.heap.get?
  rw [e]
def others0 : List Str := ["LotError", "BadNames", "BadLot", "BadShelf", "NoKeeper", "BadRecord", "BadBound", "LETTERS", "is_integer", "is_from_to", "is_row", "is_told", "is_name", "are_names", "are_bits", "all_bits", "wrong_line", "Circle", "lots", "is_lot", "refuse_lot", "is_within", "less", "MOST_PARTS", "LEAST_KEEPERS", "MOST_KEEPERS", "MOST_PIECES", "Shelf", "answer", "stands_in_shelf"]
def others1 : List Str := ["is_parts_line", "is_piece_word", "is_whole_shelf", "read_pieces", "all_spots", "piece_at", "piece_code", "records", "worth", "is_record", "refuse_keeper", "refuse_record", "spots_of", "span", "reach", "tells_all", "brings_back", "is_silent", "is_lost", "lost_record", "MOST_LIARS", "overruled", "shows_overruled", "refuse_bound", "first_doubted", "is_sure", "is_open", "_law_pot", "_law_take", "_law_of"]
def others2 : List Str := ["_law_some", "_law_cells", "_law_odd", "_law_bent", "_law_names", "_law_lot_of", "_law_is_inside", "_law_is_lot", "_law_a_lot", "_law_parts", "_law_piece", "_law_shelf", "_law_shelf_text", "_law_records", "_law_piece_value", "_law_answer", "_law_with", "_law_answer_rows", "_law_apart", "_law_is_sure", "_law_is_any_record", "_law_is_open_told", "_law_is_overruled", "_law_thick_shelf", "_law_near", "_law_right"]
def others : List Str := others0 ++ others1 ++ others2
end K6
set_option Elab.async false
set_option linter.all false
set_option maxRecDepth 100000
set_option maxHeartbeats 0
namespace K6
open PySem PySem.Spec PyProof.Rows L2 Lk
theorem run (w : World) : HandSHeadRun.RunEq R0 (PySem.W.view R0.prog [93]) hk ob 13200 others w := by
  intro os
  kernel_rfl
end K6
set_option Elab.async false
set_option linter.all false
set_option maxRecDepth 100000
set_option maxHeartbeats 0
open PySem PySem.W PySem.Calls PyProof.Rows in
theorem PySem.Challenge.cw_lotkeepers_k30_what_shows_lots_that_over_holds : PySem.Challenge.rw_lotkeepers_k30_what_shows_lots_that_over.Holds := by
  w_on; o_law
  refine HandSHeadRun.head_any (r := OpenLaw.row PySem.Challenge.rw_lotkeepers_k30_what_shows_lots_that_over) (q := view (OpenLaw.row PySem.Challenge.rw_lotkeepers_k30_what_shows_lots_that_over).prog [93]) (H := K6.hk) (ob := K6.ob) (M := 13200) (loose := K6.others) (d := HandSHeadRun.topDef (OpenLaw.row PySem.Challenge.rw_lotkeepers_k30_what_shows_lots_that_over).prog 93) (kwd := []) K6.ob_eq
    (by kernel_rfl) (fun s => by kernel_rfl) K6.run (by kernel_rfl) (by kernel_rfl) (by kernel_rfl) (by rfl) (by first | assumption | decide +kernel) (by decide +kernel) ⟨rfl, rfl, rfl, rfl, rfl, by decide +kernel⟩ ?hw ?hc
  case hw => w_witness2
  case hc =>
    refine K6.walkY (l := PySem.Challenge.rw_lotkeepers_k30_what_shows_lots_that_over) (n := 63) (lev := 10) (x := "script") (sp := K6.spLaw) rfl (by decide) (by kernel_rfl) ⟨rfl, by decide, by decide⟩ ?F fun K H a ns hl _ hS => ⟨a, ns, rfl, hS, hl, fun _ => rfl⟩
    intro w mg fa h Y G hmg0
    obtain ⟨K, KX, c⟩ := Y
    have hmg : mg ("law" : PySem.Str) = some (.ref fa) := by
      have e : (HandSHeadRun.topDef (OpenLaw.row PySem.Challenge.rw_lotkeepers_k30_what_shows_lots_that_over).prog 93).name = ("law" : PySem.Str) := by kernel_rfl
      rw [← e]
      exact hmg0
    obtain ⟨fd, hb, hF⟩ := K6.facts (P := (PySem.Challenge.rw_lotkeepers_k30_what_shows_lots_that_over).prog) (w := w) KX G hmg c
    exact ⟨K, fd, KX, hb, hF⟩
