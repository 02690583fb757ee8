import PyProof.Rows.All
import Wide.All
import OpenK.AllK
import Wide.FinOn
import HandS.ForMost
import HandS.Dict
import HandS.ExcInit
import HandS.IsInst
import KE.KExcIs
import HandS.Wide
import HandS.Conv
import PySem.Challenge.RW_lotkeepers_k01_whole_circles_and_lots
import HandS.Walk
import HandS.Strs
import HandS.OwnEq
import PyProof.InstNe
import HandS.Deep
import PyProof.AutoSeq1
import PyProof.Rows.RegFStrParts
import HandS.Zip
import HandS.Text
import HandS.Iter
import HandS.CallLocal
import HandS.DeepEq
import HandS.TupAny
import HandS.Sort
import KE.KDictPairs
import KE.LtSeq
import KE.KSortTup
import HandS.SortRule
import HandS.SortInts
import PyProof.EqAt
import HandS.WideBits
import HandS.WordsDict
import HandS.Lambda
import HandS.ExcValue
import HandS.HeadHook1
import HandS.HeadHook2
import HandS.WordsExc
import HandS.List
import HandS.Small
import HandS.EndTab
import KE.KStateDown
import HandS.Head0
import HandS.Head1
import HandS.Head2
import HandS.HeadEnd
import HandS.HeadHook4
import KE.KNestM
set_option Elab.async false
set_option linter.all false
set_option maxRecDepth 100000
set_option maxHeartbeats 4000000
/-! Part A: defs that are called while no repr is under way; reading nested data; repr of it. -/
namespace Lk
open PySem PySem.Spec PyProof.Rows L2

/-! ### a def's promise, where the guards around are known to be none -/
abbrev NoG (A : Around) : Prop := A.guards = some []
structure FnG (P : Program) (w : World) (K : PySem.W.Frag) (mg : Str → Option Value) (base : Heap)
    (lev : Nat) (fA : Addr) (fD : FuncData) (pars : List Str) (sp : Sp) : Prop where
  many : ∀ vs H Q, sp vs H Q E0 → vs.length = pars.length
  goes : ∀ (A : Around) (around : List Env) (s : Shared) (H : Hp) (args : Args) (us : List Value) (vs : List V) (Q : VK),
    Room lev A → NoG A → Env0 P w K mg base A around s H → BindsTo s fD args (pars.zip us) → Vals vs us → sp vs H Q E0 →
    codeAny (model P w) A (.call (.ref fA) args) (CR CX0 around P w H s Q E0) s

theorem FnG.of {P : Program} {w : World} {K : PySem.W.Frag} {mg : Str → Option Value} {base : Heap} {lev : Nat} {fA : Addr}
    {pars N : List Str} {sp : Sp} {nm ql : Str} {st : Stmt} {fD : FuncData}
    (F : Fun K nm ql st fA fD) (S : FnScope N pars (defScope st))
    (many : ∀ vs H Q, sp vs H Q E0 → vs.length = pars.length)
    (body : ∀ (cdv : Value) (A : Around) (around : List Env) (s : Shared) (H : Hp) (vs : List V) (Q : VK),
      Room lev (A.deeper (envOfC ql (defScope st) s.heap.objs.size fA cdv)) → NoG A → sp vs H Q E0 →
      ∃ t, PSs (cxOf CX0 P w K mg base N ql (defScope st) fA cdv A around s H E0).nox (defBody st) t ∧
        t { nx := fun _ H' => Q .non H', rt := Q } (start N vs) H) :
    FnG P w K mg base (lev + 1) fA fD pars sp := by
  obtain ⟨oc, od, kV, doc, pm, an, cdv, ct, osl, rfl, look, code⟩ := F.ex
  constructor
  · exact many
  intro A around s H args us vs Q room noG e0 binds rel want
  have same := many _ _ _ want
  have inK : K.In s.heap := e0.mod.kin.keeps fun b o e => (e0.bs b o e).1
  have free := e0.mod.nolimit.keeps fun b o e => (e0.bs b o e).1
  have kinds : ∀ y ∈ pars.zip us, (defScope st).names.lookup y.1 = some .local ∨
      ((defScope st).names.lookup y.1 = some .cell ∧ ((cellsFrom (s.heap.objs.size + 1) (defScope st).names []).lookup y.1).isSome = true) := by
    rintro ⟨n, v⟩ hy
    rcases S.par n (List.of_mem_zip hy).1 with q | q
    · exact Or.inl q
    · exact Or.inr ⟨q, PySem.W.cellsFrom_some _ _ _ (Or.inl q)⟩
  refine codeAny_call_function room.depth (inK _ _ look) rfl S.co S.gen rfl (PySem.W.codeRec_of inK code) (binds _ _ _ _ ?_)
  refine wpAny_newFunctionEnv_cells S.kind kinds ?_
  intro env he s1 x
  subst he
  refine ⟨free.keeps x.toInCall.keep, codeAny_func ?_⟩
  obtain ⟨t, ht, hq⟩ := body cdv A around s H vs Q (room.deeper _) noG want
  have I := inv_start (CX := CX0) (E := E0) S room.hd e0 same rel x
  have run := ht.nox.run [] s1 (start N vs) H _ I hq
  refine wpAny_mono run ?_ fun e s' hs => hs
  intro fl s' hs
  cases fl with
  | ret u =>
    obtain ⟨v, σ', H', J, rv, q⟩ := hs
    exact ⟨v, H', J.os, J.bare, J.base, J.hok, rv, q⟩
  | next =>
    obtain ⟨σ', H', J, q⟩ := hs
    exact ⟨V.non, H', J.os, J.bare, J.base, J.hok, rfl, q⟩
  | brk => obtain ⟨_, _, _, q⟩ := hs; exact False.elim q
  | cont => obtain ⟨_, _, _, q⟩ := hs; exact False.elim q

/-- a plain promise serves, too -/
theorem FnG.ofOk {P : Program} {w : World} {K : PySem.W.Frag} {mg : Str → Option Value} {base : Heap} {lev : Nat} {fA : Addr}
    {fD : FuncData} {pars : List Str} {sp : Sp} (F : FnOk P w K mg base CX0 lev fA fD pars sp) : FnG P w K mg base lev fA fD pars sp :=
  ⟨fun vs H Q h => F.len vs H Q E0 h, fun A around s H args us vs Q r _ e b v h => F.run A around s H args us vs Q E0 r e b v h⟩

section
variable {X : Cx} {lev : Nat} {fA : Addr} {fD : FuncData} {pars : List Str} {sp : Sp} {x : Str} {e : Expr} {es : List Expr} {t : TA} {p pos : Pos}
theorem pe_gcall (F : FnG X.prog X.w X.K X.mg X.base lev fA fD pars sp) (room : Room lev X.A) (noG : NoG X.A) (hg : Gl X x)
    (hm : X.mg x = some (.ref fA)) (hk : PySem.W.keepIn X.K (.ref fA) = true) (hb : Binds X.K fD pars []) (ha : PA X (e :: es) t)
    (hdb : (x == ("__debug__" : Str)) = false := by decide) (hst : starEach (e :: es) X.env = (false, eval e X.env) :: starEach es X.env := by rfl)
    (hpl : (backTo pos (starEach es X.env)).any (·.1) = false := by rfl) : PE X (.Call (.Name x p) (e :: es) [] pos) (tCall sp [] E0 t) := by
  constructor
  intro pins s σ H Q I want
  refine wpAny_Call_Name_kw (ld_glob I hg hm ?_ hdb)
  refine PySem.W.callWith_K (h₀ := X.base) I.ok.mod.kin hk (thn (ha.run pos pins s σ H _ I want) ?_) hst hpl
  rintro us s1 ⟨vs, H1, I1, rel, q⟩
  refine ⟨I1.kIn, ?_⟩
  have rel2 : Vals (vs ++ []) us := by rw [List.append_nil]; exact rel
  have same : us.length = pars.length := by rw [← rel2.length]; exact F.many _ _ _ q
  have binds : BindsTo s1 fD ⟨us, []⟩ (pars.zip us) := by
    have z := hb s1 us I1.kIn (by simpa using same)
    simpa using z
  refine wpAny_call (codeAny_mono (F.goes X.A X.stack s1 H1 ⟨us, []⟩ us _ Q room noG I1.env0 binds rel2 q) ?_)
  intro r s' hq
  cases r with
  | error er => exact hq.elim
  | ok fl =>
    cases fl with
    | ret u => exact I1.after hq
    | next => exact False.elim hq
    | brk => exact False.elim hq
    | cont => exact False.elim hq
end

/-! ### the end of a law: from its promise to the row -/
theorem gcall {P : Program} {w : World} {K : PySem.W.Frag} {mg mb : Str → Option Value} {lev : Nat} {fa a : Addr} {fD : FuncData} {x : Str} {sp : Sp}
    {s0 : Shared} {vs : List Value} {ns : List Int} (KX : K.In s0.heap) (hns : s0.heap.Ns mainGlobals mg) (hb : s0.heap.Ns builtinsNs mb)
    (hbb : ∀ x : Str, x ≠ "__name__" → mb x = bootBuiltins x) (hlim : s0.heap.NoLimit) (hg : s0.gens = #[])
    (ha : s0.heap.get? a = some { cls := .type "list", data := .seq vs.toArray }) (hi : IntsAre vs ns) (hl : ns.length ≤ sizeLine) (room : Room lev callerA)
    (F : ∀ base : Heap, K.In base → base.Ns mainGlobals mg → FnG P w K mg base lev fa fD [x] sp)
    (hbind : ∀ (s : Shared) (u : Value), BindsTo s fD ⟨[u], []⟩ [(x, u)])
    (hsp : ∀ H : Hp, Only H → SqL K H a (ns.map V.int) → sp [.ref a] H (fun v _ => v = .bl true) E0) :
    codeAny (model P w) callerA (.call (.ref fa) ⟨[.ref a], []⟩) (fun r s' => r = .ok (.ret (.bool true)) ∧ OldK s0.heap s'.heap ∧ s'.os = s0.os ∧ AllBare s'.gens) s0 := by
  have rv := vals_ints hi
  have lenV := hi.length
  have main : ∀ H : Hp, Only H → SqL K H a (ns.map V.int) → HOk P w H s0.heap → (∀ b, H b ≠ none → b = a) → (H a ≠ none → K.lookup a = none) →
      codeAny (model P w) callerA (.call (.ref fa) ⟨[.ref a], []⟩) (fun r s' => r = .ok (.ret (.bool true)) ∧ OldK s0.heap s'.heap ∧ s'.os = s0.os ∧ AllBare s'.gens) s0 := by
    intro H hO hS hok hA hK
    have look : ∀ {b : Addr} {o : Obj}, s0.heap.get? b = some o → H b = none → (hidT s0.heap H).get? b = some o := by
      intro b o e n
      exact hidT_get e n
    have noD : ∀ {b : Addr} {o : Obj} {es : Array DictEntry} {ep : Nat}, s0.heap.get? b = some o → o.data = .dict es ep → H b = none := by
      intro b o es ep e d
      cases q : H b with
      | none => rfl
      | some u =>
        have e' : b = a := hA b (by rw [q]; simp)
        subst e'
        rw [ha] at e
        cases e
        cases (show Data.seq vs.toArray _ = Data.dict es ep from d)
    have ns2 : ∀ {b : Addr} {m : Str → Option Value}, s0.heap.Ns b m → (hidT s0.heap H).Ns b m := by
      rintro b m ⟨o, es, ep, e, d, r⟩
      exact ⟨o, es, ep, look e (noD e d), d, r⟩
    have inB : K.In (hidT s0.heap H) := by
      intro b o e
      refine look (KX b o e) ?_
      cases q : H b with
      | none => rfl
      | some u =>
        have e' : b = a := hA b (by rw [q]; simp)
        subst e'
        rw [hK (by rw [q]; simp)] at e
        cases e
    have lim2 : (hidT s0.heap H).NoLimit := by
      obtain ⟨mc, h1, h2⟩ := hlim
      exact ⟨mc, ns2 h1, h2⟩
    have e0 : Env0 P w K mg (hidT s0.heap H) callerA [] s0 H :=
      ⟨rfl, ⟨inB, ns2 hns, ⟨mb, ns2 hb, hbb⟩, lim2⟩, fun b o e => of_hidT e, Nat.le_of_eq (hidT_size _ _), trivial,
        fun b hb => absurd (show b ∈ ([] : List Addr) from hb) (by simp), hok, .of_eq hg⟩
    refine codeAny_mono ((F _ inB (ns2 hns)).goes callerA [] s0 H ⟨[.ref a], []⟩ [.ref a] [.ref a] _ room rfl e0 (hbind s0 (.ref a)) (.cons rfl .nil) (hsp H hO hS)) ?_
    intro r s' h
    cases r with
    | error e => exact h.elim
    | ok fl =>
      cases fl with
      | next => exact False.elim h
      | brk => exact False.elim h
      | cont => exact False.elim h
      | ret u =>
        obtain ⟨v, H', os, bare, un, hok', r', q⟩ := h
        cases (show v = .bl true from q)
        cases (show u = Value.bool true from r')
        refine ⟨rfl, OldK.of_keep ?_, os, bare⟩
        intro b o e
        cases q : H b with
        | none => exact un.keep b o e q (fun z => absurd (show b ∈ ([] : List Addr) from z) (by simp)) (by simp)
        | some u =>
          rcases hO b with z | ⟨ob, xs, z⟩
          · rw [q] at z; cases z
          · obtain ⟨e1, _⟩ := hok b _ z
            obtain ⟨e2, _⟩ := hok' b _ (un.frzs b ob _ z)
            rw [e] at e1
            cases e1
            exact e2
  cases hk : K.lookup a with
  | some o =>
    have e := KX a o hk
    rw [ha] at e
    cases e
    exact main (fun _ => none) (fun _ => .inl rfl) (.inr ⟨_, vs.toArray, _, hk, rfl, rfl, rfl, by rw [List.size_toArray, lenV]; exact hl, by simpa using rv⟩)
      (fun b u z => nomatch (show (none : Option HO) = some u from z)) (fun b z => absurd rfl z) (fun z => absurd rfl z)
  | none =>
    refine main (fun b => if b = a then some (.frz { cls := .type "list", data := .seq vs.toArray } (.lst (ns.map V.int))) else none) ?_ (.inl (.inr ⟨_, if_pos rfl⟩)) ?_ ?_ (fun _ => hk)
    · intro b
      by_cases hb : b = a
      · exact .inr ⟨_, _, if_pos hb⟩
      · exact .inl (if_neg hb)
    · intro b u z
      by_cases hb : b = a
      · have z' := (if_pos hb).symm.trans z
        cases z'
        subst hb
        exact ⟨ha, by rw [List.length_map]; exact hl, vs, _, rv, ha⟩
      · cases (if_neg hb).symm.trans z
    · intro b z
      by_cases hb : b = a
      · exact hb
      · exact absurd (if_neg hb) z
end Lk

namespace Lk
open PySem PySem.Spec PyProof.Rows L2
/-- from the promise of `law` to the row -/
theorem walkG {l : PySem.W.OpenLaw} {n lev : Nat} {q : Program} {loose : List Str} {XP : (Str → Option Value) → Heap → Prop} {YP : World → Heap → Prop}
    {d : DefRec} {K : Params → PySem.W.Frag} {sp : PySem.W.Frag → Sp} {x : Str}
    (hn : l.most = some n) (hn2 : n ≤ sizeLine) (hdf : d.params.defaults = []) (room : Room lev callerA)
    (hY : ∀ (w : World) (h : Heap), YP w h → (K w.params).In h)
    (F : ∀ (w : World) (mg : Str → Option Value) (fa : Addr) (h : Heap), (K w.params).In h → h.Ns mainGlobals mg → mg d.name = some (.ref fa) →
      ∃ fD : FuncData, (∀ (s : Shared) (u : Value), BindsTo s fD ⟨[u], []⟩ [(x, u)]) ∧
        ∀ base : Heap, (K w.params).In base → base.Ns mainGlobals mg → FnG l.prog w (K w.params) mg base lev fa fD [x] (sp (K w.params)))
    (hsp : ∀ (K : PySem.W.Frag) (H : Hp) (a : Addr) (ns : List Int), ns.length ≤ n → Only H → SqL K H a (ns.map V.int) → sp K [.ref a] H (fun v _ => v = .bl true) E0) :
    PySem.W.WalkO q loose XP YP l.row.toRowW d [] (fun f vs => PySem.call f vs) := by
  refine Att.attach_call hn hdf ?_
  intro w s₀ s₁ mg mb fa o pm cd doc a vs ns G Y ho hd hcd hmg hobj hints hlen hg
  have KX := hY w _ Y
  obtain ⟨fD, hb, hF⟩ := F w mg fa _ KX G.T.g hmg
  exact gcall KX G.T.g G.T.b G.T.builtins G.T.nolimit hg hobj hints (Nat.le_trans hlen hn2) room hF hb fun H hO hS => hsp _ H a ns hlen hO hS
end Lk
set_option Elab.async false
set_option linter.all false
set_option maxRecDepth 100000
set_option maxHeartbeats 4000000
/-! Part B: values that are data through and through, and their repr. -/
namespace Lk
open PySem PySem.Spec PyProof.Rows L2

def keyD : Key → PyData
  | .inl i => .int i
  | .inr x => .str x

mutual
/-- v stands for the data d: lists, tuples and dicts that are tracked, ints, texts -/
inductive DW (H : Hp) : V → PyData → Prop
  | non : DW H .non .none
  | bl (b : Bool) : DW H (.bl b) (.bool b)
  | int (i : Int) : DW H (.int i) (.int i)
  | str (x : Str) : DW H (.str x) (.str x)
  | lst {a : Addr} {xs : List V} {ds : List PyData} : H a = some (.lst xs) → a ≠ sysModules → DWs H xs ds → DW H (.ref a) (.list ds)
  | tup {a : Addr} {xs : List V} {ds : List PyData} : H a = some (.tup xs) → DWs H xs ds → DW H (.ref a) (.tuple ds)
  | dic {a : Addr} {kvs : List (Key × V)} {ps : List (PyData × PyData)} : H a = some (.dK kvs) → DWk H kvs ps → DW H (.ref a) (.dict ps)
inductive DWs (H : Hp) : List V → List PyData → Prop
  | nil : DWs H [] []
  | cons {v : V} {vs : List V} {d : PyData} {ds : List PyData} : DW H v d → DWs H vs ds → DWs H (v :: vs) (d :: ds)
inductive DWk (H : Hp) : List (Key × V) → List (PyData × PyData) → Prop
  | nil : DWk H [] []
  | cons {k : Key} {v : V} {kvs : List (Key × V)} {d : PyData} {ps : List (PyData × PyData)} : DW H v d → DWk H kvs ps → DWk H ((k, v) :: kvs) ((keyD k, d) :: ps)
end

mutual
theorem DW.same {H H' : Hp} (k : Same H H') : ∀ {v : V} {d : PyData}, DW H v d → DW H' v d
  | _, _, .non => .non
  | _, _, .bl b => .bl b
  | _, _, .int i => .int i
  | _, _, .str x => .str x
  | _, _, .lst h n r => .lst (k _ _ h) n (DWs.same k r)
  | _, _, .tup h r => .tup (k _ _ h) (DWs.same k r)
  | _, _, .dic h r => .dic (k _ _ h) (DWk.same k r)
theorem DWs.same {H H' : Hp} (k : Same H H') : ∀ {vs : List V} {ds : List PyData}, DWs H vs ds → DWs H' vs ds
  | _, _, .nil => .nil
  | _, _, .cons h r => .cons (DW.same k h) (DWs.same k r)
theorem DWk.same {H H' : Hp} (k : Same H H') : ∀ {vs : List (Key × V)} {ds : List (PyData × PyData)}, DWk H vs ds → DWk H' vs ds
  | _, _, .nil => .nil
  | _, _, .cons h r => .cons (DW.same k h) (DWk.same k r)
end
theorem DWs.length {H : Hp} : ∀ {vs : List V} {ds : List PyData}, DWs H vs ds → vs.length = ds.length
  | _, _, .nil => rfl
  | _, _, .cons _ r => congrArg (· + 1) (DWs.length r)
theorem DWs.get {H : Hp} : ∀ {vs : List V} {ds : List PyData} {i : Nat} {d : PyData}, DWs H vs ds → ds[i]? = some d → ∃ v, vs[i]? = some v ∧ DW H v d
  | _, _, _, _, .nil, e => by simp at e
  | _, _, 0, _, .cons h _, e => by simp at e; subst e; exact ⟨_, rfl, h⟩
  | _, _, i + 1, _, .cons _ r, e => by
    obtain ⟨v, h1, h2⟩ := DWs.get (i := i) r (by simpa using e)
    exact ⟨v, by simpa using h1, h2⟩
theorem DWs.get' {H : Hp} : ∀ {vs : List V} {ds : List PyData} {i : Nat} {v : V}, DWs H vs ds → vs[i]? = some v → ∃ d, ds[i]? = some d ∧ DW H v d
  | _, _, _, _, .nil, e => by simp at e
  | _, _, 0, _, .cons h _, e => by simp at e; subst e; exact ⟨_, rfl, h⟩
  | _, _, i + 1, _, .cons _ r, e => by
    obtain ⟨v, h1, h2⟩ := DWs.get' (i := i) r (by simpa using e)
    exact ⟨v, by simpa using h1, h2⟩
theorem DWs.append {H : Hp} : ∀ {vs ws : List V} {ds es : List PyData}, DWs H vs ds → DWs H ws es → DWs H (vs ++ ws) (ds ++ es)
  | _, _, _, _, .nil, r => r
  | _, _, _, _, .cons h t, r => .cons h (DWs.append t r)

section
variable {X : Cx} {pins : List (Addr × Obj)} {σ : L2.St} {H : Hp} {s : Shared}
theorem reads_key {P : Program} {w : World} {k : Key} {v : Value} (h : (mixKind P w).is k v = true) : Reads s.heap v (keyD k) [] := by
  rcases keyIs_shape (k := k) (v := v) h with ⟨i, t, rfl, rfl⟩ | ⟨x, t, rfl, rfl⟩
  · exact .int i t
  · exact .str x t
theorem pairs_read {P : Program} {w : World} : ∀ {es : List DictEntry} {vs : List (Key × Value)}, Pairs (mixKind P w) es vs →
    ReadsAll s.heap (es.map (·.key)) (vs.map fun p => keyD p.1) []
  | _, _, .nil => .nil
  | _, _, .cons h _ r => ReadsAll.cons (as := []) (reads_key h) (pairs_read r)
mutual
theorem DW.reads (I : Inv X pins σ H s) : ∀ {v : V} {d : PyData} {u : Value}, DW H v d → RelV v u → ∃ as, Reads s.heap u d as ∧ sysModules ∉ as
  | _, _, _, .non, r => by cases r; exact ⟨_, .none, by simp⟩
  | _, _, _, .bl b, r => by cases r; exact ⟨_, .bool b, by simp⟩
  | _, _, _, .int i, r => by obtain ⟨t, rfl⟩ := r; exact ⟨_, .int i t, by simp⟩
  | _, _, _, .str x, r => by obtain ⟨t, rfl⟩ := r; exact ⟨_, .str x t, by simp⟩
  | _, _, _, .lst (a := a) h n rs, r => by
    cases r
    obtain ⟨_, its, m, rv, e⟩ := (show ObjOk X.prog X.w H s.heap a (.lst _) from I.hok a _ h)
    obtain ⟨as, q, z⟩ := DWs.reads I rs rv
    refine ⟨_, Reads.list e rfl rfl (by simpa using q), ?_⟩
    rw [List.mem_cons]
    rintro (e | e)
    · exact n e.symm
    · exact z e
  | _, _, _, .tup (a := a) h rs, r => by
    cases r
    obtain ⟨_, its, rv, o, e, hc, m, hd⟩ := (show ObjOk X.prog X.w H s.heap a (.tup _) from I.hok a _ h)
    obtain ⟨as, q, z⟩ := DWs.reads I rs rv
    exact ⟨_, Reads.tuple e hc hd (by simpa using q), z⟩
  | _, _, _, .dic (a := a) h rs, r => by
    cases r
    obtain ⟨_, n, vs, kv, o, es, ep, e, ex, hd, _, pr, _⟩ := (show ObjOk X.prog X.w H s.heap a (.dK _) from I.hok a _ h)
    have q := pairs_read (s := s) pr
    obtain ⟨bs, q2, q3, z⟩ := DWk.reads I rs kv pr
    refine ⟨_, Reads.dict (as := []) (bs := bs) e ex.1 hd ?_ q2, ?_⟩
    · rw [← q3]; exact q
    · have n' : a ≠ sysModules := by simpa using n
      show ¬ sysModules ∈ a :: bs
      rw [List.mem_cons]
      rintro (e | e)
      · exact n' e.symm
      · exact z e
theorem DWs.reads (I : Inv X pins σ H s) : ∀ {vs : List V} {ds : List PyData} {us : List Value}, DWs H vs ds → Vals vs us → ∃ as, ReadsAll s.heap us ds as ∧ sysModules ∉ as
  | _, _, _, .nil, r => by cases r; exact ⟨_, .nil, by simp⟩
  | _, _, _, .cons h rs, r => by
    cases r with
    | cons r1 r2 =>
      obtain ⟨as, q1, z1⟩ := DW.reads I h r1
      obtain ⟨bs, q2, z2⟩ := DWs.reads I rs r2
      exact ⟨_, .cons q1 q2, by rw [List.mem_append]; exact fun z => z.elim z1 z2⟩
theorem DWk.reads (I : Inv X pins σ H s) : ∀ {kvs : List (Key × V)} {ps : List (PyData × PyData)} {vs : List (Key × Value)} {es : List DictEntry}, DWk H kvs ps → KV kvs vs →
    Pairs (mixKind X.prog X.w) es vs → ∃ bs, ReadsAll s.heap (es.map (·.val)) (ps.map (·.2)) bs ∧ vs.map (fun p => keyD p.1) = ps.map (·.1) ∧ sysModules ∉ bs
  | _, _, _, _, .nil, r, p => by cases r; cases p; exact ⟨_, .nil, rfl, by simp⟩
  | _, _, _, _, .cons (k := k) h rs, r, p => by
    unfold KV at r
    cases r with
    | cons r1 r2 =>
      cases p with
      | cons p1 p2 p3 =>
        obtain ⟨as, q1, z1⟩ := DW.reads I h r1.2
        obtain ⟨bs, q2, q3, z2⟩ := DWk.reads I rs r2 p3
        rw [← p2] at q1
        refine ⟨_, .cons q1 q2, ?_, by rw [List.mem_append]; exact fun z => z.elim z1 z2⟩
        rw [List.map_cons, List.map_cons, ← r1.1, q3]
end
end

/-- repr of such data -/
theorem call_reprD {X : Cx} (noG : NoG X.A) (hu : X.A.units + 64 < cLine) : CallR X (.builtin "repr") (fun xs H Q => ∃ v d, xs = [v] ∧ DW H v d ∧
    d.showable = true ∧ d.depth ≤ 50 ∧ d.shown.length ≤ sizeLine ∧ Q (.str d.shown) H) := by
  intro pins s σ H xs us Q I r h
  obtain ⟨v, d, rfl, dw, hs, hd, hl, q⟩ := h
  obtain ⟨u, rfl, ru⟩ := r.one
  have fin : ∀ t (s' : Shared), Inv X pins σ H s' → EP X pins σ Q (.str d.shown t) s' := fun t s' J => ⟨.str d.shown, H, J, ⟨t, rfl⟩, q⟩
  have refs : ∀ a, u = .ref a → wpAny (model X.prog X.w) X.A (call (.builtin "repr") [u]) (EP X pins σ Q) X.xe s := by
    rintro a rfl
    obtain ⟨as, q1, z⟩ := DW.reads I dw ru
    exact repr_of_reads' q1 hs (fun _ => z) noG (by omega) (fun _ _ e => e) (fun h' t tk k => fin _ _ (I.kept (t' := tk) k)) hl
  cases dw with
  | non => cases (show u = Value.none from ru); exact PySem.P.repr_of_none (fin _ _ (I.tok _))
  | bl b => cases (show u = Value.bool b from ru); cases b <;> exact PySem.P.repr_of_bool (fin _ _ (I.tok _))
  | int i => obtain ⟨t, rfl⟩ := ru; exact PySem.P.repr_of_int (by simpa [PyData.showable] using hs) (fin _ _ (I.tok _))
  | str x => obtain ⟨t, rfl⟩ := ru; exact PySem.P.repr_of_str (fin _ _ (I.tok _)) hl
  | lst h n r => exact refs _ ru
  | tup h r => exact refs _ ru
  | dic h r => exact refs _ ru
end Lk
set_option Elab.async false
set_option linter.all false
set_option maxRecDepth 100000
set_option maxHeartbeats 4000000
/-! Part C: displays as data; the draws of a law. -/
namespace Lk
open PySem PySem.Spec PyProof.Rows L2
abbrev St := L2.St

/-- what is in H' and was not in H -/
def sub (H H' : Hp) : Hp := fun b => if (H b).isSome = true then none else H' b
theorem sub_of {H H' : Hp} {b : Addr} {o : HO} (h : H b = none) (h' : H' b = some o) : sub H H' b = some o := by
  unfold sub
  rw [h, if_neg (by simp)]
  exact h'
theorem of_sub {H H' : Hp} {b : Addr} {o : HO} (h : sub H H' b = some o) : H b = none ∧ H' b = some o := by
  unfold sub at h
  split at h
  · cases h
  · rename_i n
    refine ⟨?_, h⟩
    cases q : H b with
    | none => rfl
    | some u => rw [q] at n; exact absurd rfl n
theorem sub_same (H H' : Hp) : Same (sub H H') H' := fun _ _ e => (of_sub e).2
/-- a fresh value that stands for d; what was tracked stays -/
def tFr (d : PyData) : TE := fun _ H Q => ∀ v H', Same H H' → DW (sub H H') v d → Q v H'
def tFrs (ds : List PyData) : TA := fun _ H Q => ∀ vs H', Same H H' → DWs (sub H H') vs ds → Q vs H'
theorem same_new {H : Hp} {p : Addr} {o : HO} (h : H p = none) : Same H (upd H p o) := fun b u e => by
  rw [upd_ne (ne_of_none e h)]
  exact e
theorem sub_more {H H1 H2 : Hp} (s : Same H1 H2) : Same (sub H H1) (sub H H2) := fun _ _ e => sub_of (of_sub e).1 (s _ _ (of_sub e).2)
theorem sub_less {H H1 H2 : Hp} (s : Same H H1) : Same (sub H1 H2) (sub H H2) := fun _ _ e => sub_of (s.free (of_sub e).1) (of_sub e).2
theorem sub_new {H H1 : Hp} {p : Addr} {o : HO} (s : Same H H1) (h : H1 p = none) : sub H (upd H1 p o) p = some o := sub_of (s.free h) upd_same

section
variable {X : Cx} {e : Expr} {es : List Expr} {t t' : TE} {d : PyData} {ds : List PyData} {pos : Pos} {j : Nat}
theorem pe_imp (h : PE X e t) (k : ∀ σ H Q, t' σ H Q → t σ H Q) : PE X e t' := ⟨fun pins s σ H Q I q => h.run pins s σ H Q I (k σ H Q q)⟩
theorem pa_imp {t t' : TA} (h : PA X es t) (k : ∀ σ H Q, t' σ H Q → t σ H Q) : PA X es t' := ⟨fun pos pins s σ H Q I q => h.run pos pins s σ H Q I (k σ H Q q)⟩
theorem pd_int {i : Int} : PE X (.Constant (.int i) j pos) (tFr (.int i)) := pe_imp pe_int fun _ H _ q => q _ _ (Same.refl H) (.int i)
theorem pd_bl {b : Bool} : PE X (.Constant (.bool b) j pos) (tFr (.bool b)) := pe_imp pe_bl fun _ H _ q => q _ _ (Same.refl H) (.bl b)
theorem pd_non : PE X (.Constant .none j pos) (tFr .none) := pe_imp pe_non fun _ H _ q => q _ _ (Same.refl H) .non
theorem pd_str {x : Str} : PE X (.Constant (.str x) j pos) (tFr (.str x)) := pe_imp pe_str fun _ H _ q => q _ _ (Same.refl H) (.str x)
theorem pd_neg {i : Int} {p1 : Pos} : PE X (.UnaryOp .USub (.Constant (.int i) j p1) pos) (tFr (.int (-i))) :=
  pe_imp (pe_un un_neg pe_int) fun _ H _ q => ⟨i, rfl, q _ _ (Same.refl H) (.int _)⟩
theorem pds_nil : PA X [] (tFrs []) := pa_imp pa_nil fun _ H _ q => q _ _ (Same.refl H) .nil
theorem pds_cons (ha : PE X e (tFr d)) (hr : PA X es (tFrs ds)) (hs : starEach (e :: es) X.env = (false, eval e X.env) :: starEach es X.env := by rfl) : PA X (e :: es) (tFrs (d :: ds)) :=
  pa_imp (pa_cons ha hr hs) fun _ H _ q => fun v H1 s1 d1 vs H2 s2 d2 => q _ _ (s1.trans s2) (.cons (d1.same (sub_more s2)) (d2.same (sub_less s1)))
theorem few_ok {n : Nat} (h : decide (n ≤ 1000) = true) : n ≤ sizeLine := by
  rw [sizeLine_eq]
  have := of_decide_eq_true h
  omega
theorem pd_tup {c : Nat} (h : PA X es (tFrs ds)) (hl : decide (ds.length ≤ 1000) = true := by rfl) : PE X (.Tuple es c pos) (tFr (.tuple ds)) :=
  pe_imp (pe_tup h) fun _ H _ q => fun vs H1 s1 d1 => ⟨by rw [d1.length]; exact few_ok hl, fun p hp => q _ _ (s1.trans (same_new hp)) (.tup (sub_new s1 hp) (d1.same (sub_more (same_new hp))))⟩
/-- a list that is displayed, its address told not to be that of sys.modules -/
def tLstN (t : TA) : TE := fun σ H Q => t σ H fun xs H1 => xs.length ≤ sizeLine ∧ ∀ p, H1 p = none → p ≠ sysModules → Q (.ref p) (upd H1 p (.lst xs))
theorem pe_lstN {t : TA} (h : PA X es t) : PE X (.List es pos) (tLstN t) := by
  constructor
  intro pins s σ H Q I hq
  refine wpAny_List_spliced (thn (h.run pos pins s σ H _ I hq) ?_)
  rintro us s1 ⟨xs, H1, I1, r, z, q⟩
  refine ⟨by rw [← r.length]; exact z, ?_⟩
  have free : H1 s1.heap.objs.size = none := I1.hok.fresh (Nat.le_refl _)
  have J := I1.laid (t' := s1.toks) (a := s1.heap.objs.size) (o := .lst xs) (h' := s1.heap.push { cls := .type "list", data := .seq us.toArray })
    (fun b u e => Heap.get?_push_of_some _ e) (Nat.le_refl _) ⟨z, us, 0, r, Heap.get?_push_size _ rfl⟩
  exact ⟨.ref s1.heap.objs.size, _, J, rfl, q _ free (Nat.ne_of_gt I1.big)⟩
theorem pd_lst (h : PA X es (tFrs ds)) (hl : decide (ds.length ≤ 1000) = true := by rfl) : PE X (.List es pos) (tFr (.list ds)) :=
  pe_imp (pe_lstN h) fun _ H _ q => fun vs H1 s1 d1 => ⟨by rw [d1.length]; exact few_ok hl, fun p hp n => q _ _ (s1.trans (same_new hp)) (.lst (sub_new s1 hp) n (d1.same (sub_more (same_new hp))))⟩
theorem pd_dict0 : PE X (.Dict [] [] pos) (tFr (.dict [])) :=
  pe_imp pe_dnewK fun _ H _ q => fun p hp => q _ _ (same_new hp) (.dic (sub_new (Same.refl H) hp) .nil)
theorem pd_dict1 {k : Str} {p1 : Pos} (h : PE X e (tFr d)) : PE X (.Dict [some (.Constant (.str k) j p1)] [e] pos) (tFr (.dict [(.str k, d)])) :=
  pe_imp (pe_disp (pps_cons pe_str h pps_nil) rfl rfl (by simp) (by simp)) fun _ H _ q => fun p hp v H1 s1 d1 => by
    have e1 := s1 _ _ (upd_same (H := H) (a := p) (o := .dK []))
    refine ⟨e1, [(.inr k, v)], rfl, by simp, ?_⟩
    have same : Same H (upd H1 p (.dK (mergeK [] [(.inr k, v)]))) := fun b u e => by
      have nb := ne_of_none e hp
      rw [upd_ne nb]
      exact s1 b u (by rw [upd_ne nb]; exact e)
    refine q _ _ same (.dic (kvs := [(.inr k, v)]) (sub_of hp upd_same) (.cons (d1.same ?_) .nil))
    intro b u e
    obtain ⟨n1, n2⟩ := of_sub e
    have nb : b ≠ p := fun z => by rw [z, upd_same] at n1; cases n1
    exact sub_of (by rw [upd_ne nb] at n1; exact n1) (by rw [upd_ne nb]; exact n2)
end

/-! ### the draws -/
/-- H' has what H has, but for a; a may be written -/
def ExtP (a : Addr) (H H' : Hp) : Prop := ∀ b o, b ≠ a → H b = some o → H' b = some o
theorem ExtP.refl (a : Addr) (H : Hp) : ExtP a H H := fun _ _ _ e => e
theorem ExtP.trans {a : Addr} {H H1 H2 : Hp} (x : ExtP a H H1) (y : ExtP a H1 H2) : ExtP a H H2 := fun b o n e => y b o n (x b o n e)
theorem ExtP.of {a : Addr} {H H' : Hp} (s : Same H H') : ExtP a H H' := fun b o _ e => s b o e
theorem ExtP.upd (a : Addr) (H : Hp) (o : HO) : ExtP a H (upd H a o) := fun b u n e => by rw [upd_ne n]; exact e
/-- the draws' list: what is left of the cell, the mixed number, how often it was asked -/
def PotAt (a : Addr) (N : Nat) (H : Hp) : Prop := ∃ o b c : Int, H a = some (.lst [.int o, .int b, .int c]) ∧ 0 ≤ o ∧ 0 ≤ b ∧ b < 2305843009213693951 ∧ 0 ≤ c ∧ c ≤ N
theorem PotAt.mono {a : Addr} {N M : Nat} {H : Hp} (h : PotAt a N H) (k : N ≤ M) : PotAt a M H := by
  obtain ⟨o, b, c, e, h0, h1, h2, h3, h4⟩ := h
  exact ⟨o, b, c, e, h0, h1, h2, h3, by omega⟩
theorem PotAt.same {a : Addr} {N : Nat} {H H' : Hp} (h : PotAt a N H) (k : Same H H') : PotAt a N H' := by
  obtain ⟨o, b, c, e, r⟩ := h
  exact ⟨o, b, c, k _ _ e, r⟩
/-- ** to a written power, of great numbers -/
def CPowW (i j : Int) : Prop := 0 ≤ j ∧ j ≤ 1000 ∧ i.natAbs < 2 ^ 4096
theorem op_powW {X : Cx} : OpR X (binaryOp .Pow) (rI CPowW fun i j => .int (i ^ j.toNat)) := opI fun i j _ _ _ _ _ hc q => by
  obtain ⟨h1, h2, h3⟩ := hc
  refine pow_int h1 ?_ q
  have e : Builtin.Int.intBits i ≤ 4096 := by
    unfold Builtin.Int.intBits
    split
    · omega
    · have := PySem.Flt.log2_lt_of (show 0 < 4096 by decide) h3
      omega
  have : (Builtin.Int.intBits i : Int) * j ≤ 4096 * 1000 := Int.mul_le_mul (by omega) h2 h1 (by decide)
  omega
theorem pow_lt {i : Int} {n k : Nat} (h : i.natAbs < n) (hn : 0 < k) : (i ^ k).natAbs < n ^ k := by
  rw [Int.natAbs_pow]
  exact Nat.pow_lt_pow_left h (by omega)
theorem sub_ext {a : Addr} {H H1 H2 : Hp} (ha : H a ≠ none) (x : ExtP a H1 H2) : Same (sub H H1) (sub H H2) := fun b o e => by
  obtain ⟨e0, e1⟩ := of_sub e
  exact sub_of e0 (x b o (fun z => ha (z ▸ e0)) e1)
theorem sub_lessP {a : Addr} {H H1 H2 : Hp} (h1 : H1 a ≠ none) (x : ExtP a H H1) : Same (sub H1 H2) (sub H H2) := fun b o e => by
  obtain ⟨e0, e1⟩ := of_sub e
  refine sub_of ?_ e1
  cases q : H b with
  | none => rfl
  | some u =>
    have nb : b ≠ a := fun z => h1 (z ▸ e0)
    rw [x b u nb q] at e0
    cases e0
theorem PotAt.ne {a : Addr} {N : Nat} {H : Hp} (h : PotAt a N H) : H a ≠ none := by
  obtain ⟨_, _, _, e, _⟩ := h
  rw [e]
  exact fun z => by cases z
end Lk
set_option Elab.async false
set_option linter.all false
set_option maxRecDepth 100000
set_option maxHeartbeats 4000000
namespace K6
open PySem PySem.Spec PyProof.Rows L2 Lk
def top (i : Nat) : Stmt := PySem.Challenge.pw_lotkeepers_k01_whole_circles_and_lots.main.body.getD i (.Pass ⟨0, 0, 0, 0⟩)
abbrev sPot : Stmt := top 18
abbrev sTake : Stmt := top 19
abbrev sOf : Stmt := top 20
abbrev sCells : Stmt := top 22
abbrev sSome : Stmt := top 21
/-- built-in names that the text leaves alone -/
structure Bl (mg : Str → Option Value) : Prop where
  int : mg "int" = none
  abs : mg "abs" = none
  len : mg "len" = none
  list : mg "list" = none
  range : mg "range" = none
  max : mg "max" = none
  min : mg "min" = none
  all : mg "all" = none
  any : mg "any" = none
  repr : mg "repr" = none
  isin : mg "isinstance" = none
  enum : mg "enumerate" = none
  vErr : mg "ValueError" = none
section
variable {P : Program} {w : World} {K : PySem.W.Frag} {mg : Str → Option Value} {base : Heap} {f : Addr} {fd : FuncData}
def spTake : Sp := fun vs H Q _ => ∃ (a : Addr) (n : Int) (N : Nat), vs = [.ref a, .int n] ∧ PotAt a N H ∧ N ≤ 1000000 ∧ 0 < n ∧ n ≤ 1000 ∧
  ∀ (i : Int) (H' : Hp), 0 ≤ i → i < n → ExtP a H H' → PotAt a (N + 1) H' → Q (.int i) H'
theorem scTake : FnScope ["pot", "upto", "digit", "prime", "mixed"] ["pot", "upto"] (defScope sTake) := ⟨rfl, rfl, rfl, by decide +kernel, rfl, by decide +kernel, by decide +kernel⟩
theorem ok_take (F : Fun K "_law_take" "_law_take" sTake f fd) (T : Bl mg) : FnOk P w K mg base CX0 1 f fd ["pot", "upto"] spTake := by
  refine F.ok scTake (fun vs H Q E h => ?_) (fun cdv A outer s H vs Q E hr h => ?_)
  · obtain ⟨a, n, N, rfl, _⟩ := h
    rfl
  · obtain ⟨a, n, N, rfl, ⟨o, b, c, hp, ho, hb, hb2, hc, hcN⟩, hN, hn, hn2, k⟩ := h
    have nd := scTake.nd
    refine ⟨_, pss_cons (ps_if (pt_cmpR op_gt (pe_ix ix_list (pv 0) pe_int (fun _ _ => rfl)) pe_int (nomark _))
        (pss_cons (ps_set (i := 2) nd rfl (.inl rfl) (pe_op op_mod (pe_callTy call_int1 rfl T.int boot_int (pa_cons (pe_ix ix_list (pv 0) pe_int (fun _ _ => rfl)) pa_nil)) (pv 1)))
          (pss_cons (ps_asg (pe_op op_fdiv (pe_ix ix_list (pv 0) pe_int (fun _ _ => rfl)) (pv 1)) (pg_sub (pv 0) pe_int set_list))
            (pss_one (ps_ret (pv 2))))) pss_nil)
      (pss_cons (ps_asg (pe_op op_add (pe_ix ix_list (pv 0) pe_int (fun _ _ => rfl)) pe_int) (pg_sub (pv 0) pe_int set_list))
        (pss_cons (ps_set (i := 3) nd rfl (.inl rfl) (pe_ix ix_list (pe_lst (pa_cons pe_int (pa_cons pe_int (pa_cons pe_int (pa_cons pe_int (pa_cons pe_int pa_nil))))))
            (pe_op op_mod (pe_callTy call_int1 rfl T.int boot_int (pa_cons (pe_ix ix_list (pv 0) pe_int (fun _ _ => rfl)) pa_nil)) pe_int) (fun _ _ => rfl)))
          (pss_cons (ps_set (i := 4) nd rfl (.inl rfl) (pe_op op_mod (pe_callTy call_int1 rfl T.int boot_int (pa_cons (pe_op op_powW (pe_callTy call_int1 rfl T.int boot_int (pa_cons
                (pe_op op_add (pe_op op_add (pe_ix ix_list (pv 0) pe_int (fun _ _ => rfl)) (pe_op op_mul (pe_op op_mul pe_int (pe_ix ix_list (pv 0) pe_int (fun _ _ => rfl))) (pe_ix ix_list (pv 0) pe_int (fun _ _ => rfl)))) pe_int) pa_nil)) pe_int) pa_nil)) (pv 3)))
            (pss_cons (ps_set (i := 4) nd rfl (.inl rfl) (pe_op op_mod (pe_callTy call_int1 rfl T.int boot_int (pa_cons (pe_op op_mul (pv 4)
                (pe_op op_add (pe_op op_mod (pe_callTy call_int1 rfl T.int boot_int (pa_cons (pv 4) pa_nil)) pe_int) (pe_op op_mul pe_int (pe_ix ix_list (pv 0) pe_int (fun _ _ => rfl))))) pa_nil)) pe_int))
              (pss_one (ps_ret (pe_op op_mod (pe_callTy call_int1 rfl T.int boot_int (pa_cons (pe_op op_fdiv (pv 4) pe_int) pa_nil)) (pv 1)))))))), ?_⟩
    -- if pot[0] > 0
    refine ⟨_, rfl, a, _, _, _, rfl, rfl, SqL.of hp, rfl, _, _, rfl, rfl, _, rfl, ?_⟩
    refine ite2 (fun hpos => ?_) (fun _ => ?_)
    · refine ⟨_, rfl, a, _, _, _, rfl, rfl, SqL.of hp, rfl, .inl ⟨_, rfl, _, rfl, _, _, rfl, rfl, hn, ?_⟩⟩
      refine ⟨_, rfl, a, _, _, _, rfl, rfl, SqL.of hp, rfl, _, rfl, _, _, rfl, rfl, ⟨hn, by omega⟩, _, rfl, a, _, _, 0, rfl, rfl, hp, rfl, ?_⟩
      refine ⟨_, rfl, ?_⟩
      exact k _ _ (Int.emod_nonneg _ (by omega)) (Int.emod_lt_of_pos _ hn) (ExtP.upd _ _ _)
        ⟨o / n, b, c, upd_same, Int.ediv_nonneg ho (by omega), hb, hb2, hc, by omega⟩
    · -- pot[2] = pot[2] + 1
      refine ⟨_, rfl, a, _, _, _, rfl, rfl, SqL.of hp, rfl, _, _, rfl, rfl, _, rfl, a, _, _, 2, rfl, rfl, hp, rfl, ?_⟩
      have hq : upd H a (.lst [.int o, .int b, .int (c + 1)]) a = some (.lst [.int o, .int b, .int (c + 1)]) := upd_same
      -- prime = [..][int(pot[2]) % 5]
      refine ⟨by rw [sizeLine_eq]; decide, fun p np => ?_⟩
      have nap : a ≠ p := fun z => by rw [← z, upd_same] at np; cases np
      have hq2 : ∀ o', upd (upd H a (.lst [.int o, .int b, .int (c + 1)])) p o' a = some (.lst [.int o, .int b, .int (c + 1)]) := fun o' => by rw [upd_ne nap]; exact hq
      refine ⟨_, rfl, a, _, _, _, rfl, rfl, SqL.of (hq2 _), rfl, .inl ⟨_, rfl, _, _, rfl, rfl, (show (0 : Int) < 5 by decide), ?_⟩⟩
      have r0 : 0 ≤ (c + 1) % 5 := Int.emod_nonneg _ (by decide)
      have r5 : (c + 1) % 5 < 5 := Int.emod_lt_of_pos _ (by decide)
      obtain ⟨pr, hpr, hp0⟩ : ∃ pr : Int, ([V.int 2147483647, .int 2147483629, .int 2147483587, .int 2147483579, .int 2147483563] : List V)[((c + 1) % 5).toNat]? = some (.int pr) ∧ 0 < pr := by
        have : ((c + 1) % 5).toNat = 0 ∨ ((c + 1) % 5).toNat = 1 ∨ ((c + 1) % 5).toNat = 2 ∨ ((c + 1) % 5).toNat = 3 ∨ ((c + 1) % 5).toNat = 4 := by omega
        rcases this with e | e | e | e | e <;> rw [e] <;> exact ⟨_, rfl, by decide⟩
      have hix : atI ([V.int 2147483647, .int 2147483629, .int 2147483587, .int 2147483579, .int 2147483563] : List V) ((c + 1) % 5) = some (.int pr) := by
        have e : (c + 1) % 5 = ((((c + 1) % 5).toNat : Nat) : Int) := by omega
        rw [e]
        exact atI_nat hpr
      refine ⟨p, _, _, _, rfl, rfl, SqL.of upd_same, hix, ?_⟩
      generalize hH : upd _ p _ = H2
      have hq3 : H2 a = some (.lst [.int o, .int b, .int (c + 1)]) := by rw [← hH]; exact hq2 _
      have hx : ExtP a H H2 := fun z u nz e => by
        have nzp : z ≠ p := fun q => by rw [q] at e nz; rw [upd_ne nz] at np; rw [np] at e; cases e
        rw [← hH, upd_ne nzp, upd_ne nz]
        exact e
      -- mixed = int(int(pot[1] + .. * pot[2] * pot[2] + ..) ** 3) % prime
      have c1 : c + 1 ≤ 1000001 := by omega
      refine ⟨_, rfl, a, _, _, _, rfl, rfl, SqL.of hq3, rfl, _, rfl, a, _, _, _, rfl, rfl, SqL.of hq3, rfl, _, _, rfl, rfl, .inl ⟨by decide, by decide⟩, ?_⟩
      refine ⟨_, rfl, a, _, _, _, rfl, rfl, SqL.of hq3, rfl, _, _, rfl, rfl, .inr ⟨by show -(2 ^ 64) < c + 1; omega, by show c + 1 < 2 ^ 64; omega⟩, _, _, rfl, rfl, _, _, rfl, rfl, .inl ⟨_, rfl, ?_⟩⟩
      have z1 : 0 ≤ 97843 * (c + 1) * (c + 1) := Int.mul_nonneg (by omega) (by omega)
      have z2 : 97843 * (c + 1) * (c + 1) ≤ 97843 * 1000001 * 1000001 := Int.mul_le_mul (by omega) c1 (by omega) (by decide)
      refine ⟨_, _, rfl, rfl, ⟨by decide, by decide, ?_⟩, .inl ⟨_, rfl, _, rfl, _, _, rfl, rfl, hp0, ?_⟩⟩
      · have : (b + 97843 * (c + 1) * (c + 1) + 109).natAbs < 2 ^ 64 := by omega
        exact Nat.lt_of_lt_of_le this (Nat.pow_le_pow_right (by decide) (by decide))
      have m0 := Int.emod_nonneg ((b + 97843 * (c + 1) * (c + 1) + 109) ^ (3 : Int).toNat) (show pr ≠ 0 by omega)
      have m1 := Int.emod_lt_of_pos ((b + 97843 * (c + 1) * (c + 1) + 109) ^ (3 : Int).toNat) hp0
      have hpr2 : pr ≤ 2147483647 := by
        have : ((c + 1) % 5).toNat = 0 ∨ ((c + 1) % 5).toNat = 1 ∨ ((c + 1) % 5).toNat = 2 ∨ ((c + 1) % 5).toNat = 3 ∨ ((c + 1) % 5).toNat = 4 := by omega
        rcases this with e | e | e | e | e <;> rw [e] at hpr <;> cases hpr <;> decide
      obtain ⟨m, hm⟩ : ∃ m, m = (b + 97843 * (c + 1) * (c + 1) + 109) ^ (3 : Int).toNat % pr := ⟨_, rfl⟩
      have m2 : -(2 ^ 64) < (b + 97843 * (c + 1) * (c + 1) + 109) ^ (3 : Int).toNat % pr := by rw [← hm] at m0 ⊢; omega
      have m3 : (b + 97843 * (c + 1) * (c + 1) + 109) ^ (3 : Int).toNat % pr < 2 ^ 64 := by rw [← hm] at m1 ⊢; omega
      -- mixed = int(mixed * (int(mixed) % .. + .. * pot[2])) % ..; return int(mixed // ..) % upto
      refine ⟨_, rfl, _, rfl, .inl ⟨_, rfl, _, _, rfl, rfl, (show (0 : Int) < 10487 by decide), ?_⟩⟩
      refine ⟨_, rfl, a, _, _, _, rfl, rfl, SqL.of hq3, rfl, _, _, rfl, rfl, .inl ⟨by decide, by decide⟩, _, _, rfl, rfl, _, _, rfl, rfl, .inl ⟨m2, m3⟩, .inl ⟨_, rfl, _, _, rfl, rfl, (show (0 : Int) < 2305843009213693907 by decide), ?_⟩⟩
      refine ⟨_, rfl, _, _, rfl, rfl, ⟨by decide, by decide⟩, .inl ⟨_, rfl, _, rfl, _, _, rfl, rfl, hn, ?_⟩⟩
      exact k _ _ (Int.emod_nonneg _ (by omega)) (Int.emod_lt_of_pos _ hn) hx ⟨o, b, c + 1, hq3, ho, hb, hb2, by omega, by omega⟩
end
section
variable {P : Program} {w : World} {K : PySem.W.Frag} {mg : Str → Option Value} {base : Heap} {f : Addr} {fd : FuncData}
/-! ### _law_of -/
def spOf : Sp := fun vs H Q _ => ∃ (a l : Addr) (N : Nat) (xs : List V), vs = [.ref a, .ref l] ∧ PotAt a N H ∧ N ≤ 1000000 ∧ l ≠ a ∧ H l = some (.lst xs) ∧ 0 < xs.length ∧ xs.length ≤ 1000 ∧
  ∀ (i : Nat) (x : V) (H' : Hp), xs[i]? = some x → ExtP a H H' → PotAt a (N + 1) H' → Q x H'
theorem scOf : FnScope ["pot", "some"] ["pot", "some"] (defScope sOf) := ⟨rfl, rfl, rfl, by decide +kernel, rfl, by decide +kernel, by decide +kernel⟩
theorem ok_of {f1 : Addr} {fd1 : FuncData} (F : Fun K "_law_of" "_law_of" sOf f fd) (T : Bl mg) (F1 : Fun K "_law_take" "_law_take" sTake f1 fd1) (b1 : Binds K fd1 ["pot", "upto"] []) (m1 : mg "_law_take" = some (.ref f1)) :
    FnOk P w K mg base CX0 2 f fd ["pot", "some"] spOf := by
  have G1 : FnOk P w K mg base CX0 1 f1 fd1 ["pot", "upto"] spTake := ok_take F1 T
  refine F.ok scOf (fun vs H Q E h => ?_) (fun cdv A outer s H vs Q E hr h => ?_)
  · obtain ⟨a, l, N, xs, rfl, _⟩ := h
    rfl
  · obtain ⟨a, l, N, xs, rfl, hp, hN, nla, hl, h0, h1, k⟩ := h
    refine ⟨_, pss_one (ps_ret (pe_ix ix_list (pv 1) (pe_call G1 hr rfl m1 F1.kp b1 .nil pass0 (pa_cons (pv 0) (pa_cons (pe_callB call_len_seq (by rfl) T.len PySem.boot_len (pa_cons (pv 1) pa_nil)) pa_nil))) (fun _ _ => rfl))), ?_⟩
    refine ⟨_, rfl, _, rfl, _, rfl, l, _, rfl, .inl (SqL.of hl), a, _, N, rfl, hp, hN, by omega, by omega, fun i H' i0 i1 ex hp' => ?_⟩
    have hl' : H' l = some (.lst xs) := ex l _ nla hl
    obtain ⟨x, hx⟩ : ∃ x, xs[i.toNat]? = some x := ⟨_, List.getElem?_eq_getElem (by omega)⟩
    refine ⟨l, xs, i, x, rfl, rfl, SqL.of hl', ?_, k i.toNat x H' hx ex hp'⟩
    have e : i = ((i.toNat : Nat) : Int) := by omega
    rw [e]
    exact atI_nat hx
/-! ### _law_cells -/
def spCells (K : PySem.W.Frag) : Sp := fun vs H Q _ => ∃ (a : Addr) (ns : List Int) (m : Int), vs = [.ref a, .int m] ∧ SqL K H a (ns.map V.int) ∧ ns.length ≤ 63 ∧ 0 ≤ m ∧ m ≤ 60 ∧
  ∀ (l : Addr) (n : Nat), n ≤ 63 → H l = none → Q (.ref l) (upd H l (.lst (rgV 0 (n : Int))))
theorem scCells : FnScope ["script", "limit"] ["script", "limit"] (defScope sCells) := ⟨rfl, rfl, rfl, by decide +kernel, rfl, by decide +kernel, by decide +kernel⟩
theorem ok_cells (F : Fun K "_law_cells" "_law_cells" sCells f fd) (T : Bl mg) : FnOk P w K mg base CX0 1 f fd ["script", "limit"] (spCells K) := by
  refine F.ok scCells (fun vs H Q E h => ?_) (fun cdv A outer s H vs Q E hr h => ?_)
  · obtain ⟨a, ns, m, rfl, _⟩ := h
    rfl
  · obtain ⟨a, ns, m, rfl, hs, hl, m0, m1, k⟩ := h
    refine ⟨_, pss_one (ps_ret (pe_listRg rfl (by rfl) T.list (prg_1 (by rfl) T.range (pe_callB (call_max2 rfl) (by rfl) T.max boot_max (pa_cons pe_int (pa_cons
      (pe_callB (call_min2 rfl) (by rfl) T.min boot_min (pa_cons (pv 1) (pa_cons (pe_callB call_len_seq (by rfl) T.len PySem.boot_len (pa_cons (pv 0) pa_nil)) pa_nil))) pa_nil)))))), ?_⟩
    refine ⟨_, rfl, _, rfl, a, _, rfl, .inl hs, _, _, rfl, _, _, rfl, _, rfl, ?_, ?_⟩
    · rw [List.length_map]
      exact RgOk.of_le (by decide) (by split <;> split <;> omega) (by decide) (by split <;> split <;> omega)
    · intro l hn
      have := k l (if (if ((ns.map V.int).length : Int) < m then ((ns.map V.int).length : Int) else m) > 1 then (if ((ns.map V.int).length : Int) < m then ((ns.map V.int).length : Int) else m) else 1).toNat
        (by rw [List.length_map]; split <;> split <;> omega) hn
      rw [Int.toNat_of_nonneg (by rw [List.length_map]; split <;> split <;> omega)] at this
      exact this
/-! ### _law_pot -/
def spPot (K : PySem.W.Frag) : Sp := fun vs H Q _ => ∃ (a : Addr) (ns : List Int) (i : Int), vs = [.ref a, .int i] ∧ SqL K H a (ns.map V.int) ∧ ns.length ≤ 63 ∧ 0 ≤ i ∧ i ≤ 100 ∧
  ∀ (p : Addr) (H' : Hp), H p = none → Same H H' → PotAt p 0 H' → Q (.ref p) H'
theorem scPot : FnScope ["script", "place", "cell", "own", "small"] ["script", "place"] (defScope sPot) := ⟨rfl, rfl, rfl, by decide +kernel, rfl, by decide +kernel, by decide +kernel⟩
theorem ten_pow : (0 : Int) < ((10 : Int) ^ (60 : Int).toNat) ^ (5 : Int).toNat := by decide +kernel
theorem ten_bits : ((10 : Int) ^ (60 : Int).toNat).natAbs < 2 ^ 4096 := by
  refine Nat.lt_of_lt_of_le (show ((10 : Int) ^ (60 : Int).toNat).natAbs < 2 ^ 256 by decide +kernel) (Nat.pow_le_pow_right (by decide) (by decide))
/-- the cell: some int -/
def tCell (K : PySem.W.Frag) : TE := fun σ H Q => ∃ (a : Addr) (ns : List Int) (i : Int), σ[0]? = some (some (.ref a)) ∧ σ[1]? = some (some (.int i)) ∧ SqL K H a (ns.map V.int) ∧ 0 ≤ i ∧ i ≤ 100 ∧ ∀ n : Int, Q (.int n) H
theorem ok_pot (F : Fun K "_law_pot" "_law_pot" sPot f fd) (T : Bl mg) : FnOk P w K mg base CX0 1 f fd ["script", "place"] (spPot K) := by
  refine F.ok scPot (fun vs H Q E h => ?_) (fun cdv A outer s H vs Q E hr h => ?_)
  · obtain ⟨a, ns, i, rfl, _⟩ := h
    rfl
  · obtain ⟨a, ns, i, rfl, hs, hl, i0, i1, k⟩ := h
    have nd := scPot.nd
    refine ⟨_, pss_cons (ps_set (i := 2) nd rfl (.inl rfl) (pe_imp (t' := tCell K) (pe_ifExp (pt_cmpR op_lt (pv 1) (pe_callB call_len_seq (by rfl) T.len PySem.boot_len (pa_cons (pv 0) pa_nil)) (nomark _))
          (pe_ix ix_list (pv 0) (pv 1) (fun _ _ => rfl)) (pe_op op_add (pe_op op_mul pe_int (pv 1)) pe_int)) ?_))
      (pss_cons (ps_set (i := 3) nd rfl (.inl rfl) (pe_op op_mul (pe_op op_mod (pe_callTy call_int1 rfl T.int boot_int (pa_cons (pe_callB call_abs (by rfl) T.abs boot_abs (pa_cons (pv 2) pa_nil)) pa_nil)) (pe_op op_powW (pe_op op_pow pe_int pe_int) pe_int))
          (pe_callTy call_int1 rfl T.int boot_int (pa_cons (pe_cmpR op_ge (pe_callB call_abs (by rfl) T.abs boot_abs (pa_cons (pv 2) pa_nil)) (pe_op op_pow pe_int pe_int) (nomark _)) pa_nil))))
        (pss_cons (ps_set (i := 4) nd rfl (.inl rfl) (pe_op op_mod (pe_callTy call_int1 rfl T.int boot_int (pa_cons (pv 2) pa_nil)) pe_int))
          (pss_one (ps_ret (pe_lst (pa_cons (pv 3) (pa_cons (pe_op op_mod (pe_callTy call_int1 rfl T.int boot_int (pa_cons
            (pe_op op_add (pe_op op_add (pe_op op_mul (pv 4) pe_int) (pe_op op_mul (pe_op op_mul pe_int (pv 1)) (pv 1))) pe_int) pa_nil)) pe_int) (pa_cons pe_int pa_nil)))))))), ?_⟩
    · rintro σ H' Q' ⟨a, ns, i, e0, e1, hs, i0, i1, q⟩
      refine ⟨_, e1, _, e0, a, _, rfl, .inl hs, _, _, rfl, rfl, _, rfl, ?_⟩
      refine ite2 (fun hlt => ?_) (fun _ => ?_)
      · have hlt' : i.toNat < ns.length := by have := of_decide_eq_true hlt; rw [List.length_map] at this; omega
        obtain ⟨x, hx0⟩ : ∃ x, ns[i.toNat]? = some x := ⟨_, List.getElem?_eq_getElem hlt'⟩
        have hx : atI (ns.map V.int) i = some (.int x) := by
          have e : i = ((i.toNat : Nat) : Int) := by omega
          rw [e]
          exact atI_nat (by rw [List.getElem?_map, hx0]; rfl)
        exact ⟨_, e0, _, e1, a, _, _, _, rfl, rfl, hs, hx, q _⟩
      · exact ⟨_, e1, _, _, rfl, rfl, .inl ⟨by decide, by decide⟩, _, _, rfl, rfl, q _⟩
    · refine ⟨a, ns, i, rfl, rfl, hs, i0, i1, fun n => ?_⟩
      have b2 : ∀ c : Bool, -(2 ^ 64) < (if c = true then (1 : Int) else 0) ∧ (if c = true then (1 : Int) else 0) < 2 ^ 64 := by decide
      have b0 : ∀ c : Bool, 0 ≤ (if c = true then (1 : Int) else 0) := by decide
      refine ⟨_, rfl, _, rfl, .inl ⟨_, rfl, _, _, rfl, rfl, ⟨by decide, by decide, by decide⟩, _, _, rfl, rfl, ⟨by decide, by decide, ten_bits⟩, _, _, rfl, rfl, ten_pow, ?_⟩⟩
      refine ⟨_, rfl, _, rfl, _, _, rfl, rfl, ⟨by decide, by decide, by decide⟩, _, _, rfl, rfl, .inr ⟨_, rfl, _, _, rfl, rfl, .inr (b2 _), ?_⟩⟩
      refine ⟨_, rfl, .inl ⟨_, rfl, _, _, rfl, rfl, (show (0 : Int) < 2305843009213693951 by decide), ?_⟩⟩
      refine ⟨_, rfl, _, rfl, _, _, rfl, rfl, .inr ⟨by decide, by decide⟩, _, rfl, _, _, rfl, rfl, .inl ⟨by decide, by decide⟩, _, rfl, _, _, rfl, rfl,
        .inl ⟨by show -(2 ^ 64) < 8032 * i; omega, by show 8032 * i < 2 ^ 64; omega⟩, _, _, rfl, rfl, _, _, rfl, rfl, .inl ⟨_, rfl, _, _, rfl, rfl, (show (0 : Int) < 2305843009213693921 by decide), ?_⟩⟩
      refine ⟨(show 3 ≤ sizeLine by rw [sizeLine_eq]; decide), fun p np => k p _ np (same_new np) ⟨_, _, _, upd_same, ?_, Int.emod_nonneg _ (by decide), ?_, by decide, by decide⟩⟩
      · exact Int.mul_nonneg (Int.emod_nonneg _ (Int.ne_of_gt ten_pow)) (b0 _)
      · exact Int.lt_trans (Int.emod_lt_of_pos _ (show (0 : Int) < 2305843009213693921 by decide)) (by decide)
end
end K6
set_option Elab.async false
set_option linter.all false
set_option maxRecDepth 100000
set_option maxHeartbeats 4000000
namespace K6
open PySem PySem.Spec PyProof.Rows L2 Lk
section
variable {P : Program} {w : World} {K : PySem.W.Frag} {mg : Str → Option Value} {base : Heap} {f : Addr} {fd : FuncData}
/-! ### _law_some -/
/-- ys are some of xs, each at its own place, in any sequence -/
def Sel {α : Type} (ys xs : List α) : Prop := ∃ zs, (ys ++ zs).Perm xs
theorem Sel.sub {α : Type} {ys xs : List α} (h : Sel ys xs) : ∀ y ∈ ys, y ∈ xs := fun y hy => by
  obtain ⟨zs, p⟩ := h
  exact p.mem_iff.mp (List.mem_append_left _ hy)
theorem Sel.nodup {α : Type} {ys xs : List α} (h : Sel ys xs) (n : xs.Nodup) : ys.Nodup := by
  obtain ⟨zs, p⟩ := h
  exact (p.nodup_iff.mpr n).sublist (List.sublist_append_left _ _)
theorem perm_erase {α : Type} : ∀ {xs : List α} {k : Nat} {y : α}, xs[k]? = some y → (y :: xs.eraseIdx k).Perm xs
  | [], _, _, h => by simp at h
  | x :: xs, 0, y, h => by simp at h; subst h; exact List.Perm.refl _
  | x :: xs, k + 1, y, h => by
    have := perm_erase (xs := xs) (k := k) (y := y) (by simpa using h)
    exact (List.Perm.swap x y _).trans (this.cons x)
def spSome (K : PySem.W.Frag) : Sp := fun vs H Q _ => ∃ (a l : Addr) (m : Int) (N : Nat) (xs : List V), vs = [.ref a, .ref l, .int m] ∧ PotAt a N H ∧ N + m.toNat ≤ 1000000 ∧ (SqL K H l xs ∨ SqT K H l xs) ∧ 0 ≤ m ∧ m ≤ xs.length ∧ xs.length ≤ 1000 ∧
  ∀ (ys : List V) (p : Addr) (H' : Hp), Sel ys xs → ys.length = m.toNat → ExtP a H H' → PotAt a (N + m.toNat) H' → H p = none → p ≠ sysModules → H' p = some (.lst ys) → Q (.ref p) H'
theorem scSome : FnScope ["pot", "pool", "amount", "rest_here", "found", "lap"] ["pot", "pool", "amount"] (defScope sSome) := ⟨rfl, rfl, rfl, by decide +kernel, rfl, by decide +kernel, by decide +kernel⟩
theorem ok_some {f1 : Addr} {fd1 : FuncData} (F : Fun K "_law_some" "_law_some" sSome f fd) (T : Bl mg) (F1 : Fun K "_law_take" "_law_take" sTake f1 fd1) (b1 : Binds K fd1 ["pot", "upto"] []) (m1 : mg "_law_take" = some (.ref f1)) :
    FnOk P w K mg base CX0 2 f fd ["pot", "pool", "amount"] (spSome K) := by
  have G1 : FnOk P w K mg base CX0 1 f1 fd1 ["pot", "upto"] spTake := ok_take F1 T
  refine F.ok scSome (fun vs H Q E h => ?_) (fun cdv A outer s H vs Q E hr h => ?_)
  · obtain ⟨a, l, m, N, xs, rfl, _⟩ := h
    rfl
  · obtain ⟨a, l, m, N, xs, rfl, hp, hN, hl, h0, h1, h2, k⟩ := h
    have nd := scSome.nd
    refine ⟨_, pss_cons (ps_par (i := 3) (j := 4) rfl nd rfl rfl (by decide) rfl rfl (by exact (pa_cons (pe_callTy call_list_of rfl T.list boot_list (pa_cons (pv 1) pa_nil)) (pa_cons (pe_lstN pa_nil) pa_nil))) rfl)
      (pss_cons (ps_for PassesOwn.never rfl (pi_range1 rfl T.range (pa_cons (pv 2) pa_nil)) (pg_name (i := 5) nd rfl (.inl rfl))
          (pss_one (ps_expr (pe_bm PySem.F.plainAttrs_list PySem.F.slot_list_append PySem.F.type_list_append mt_append (pv 4) (pa_cons (pe_bm PySem.F.plainAttrs_list PySem.F.slot_list_pop PySem.F.type_list_pop mt_popAt (pv 3)
            (pa_cons (pe_call G1 hr rfl m1 F1.kp b1 .nil pass0 (pa_cons (pv 0) (pa_cons (pe_callB call_len_seq (by rfl) T.len PySem.boot_len (pa_cons (pv 3) pa_nil)) pa_nil))) pa_nil)) pa_nil)))))
        (pss_one (ps_ret (pv 4)))), ?_⟩
    refine ⟨_, rfl, l, xs, rfl, hl, fun r nr => ?_⟩
    have s1 : Same H (upd H r (.lst xs)) := same_new nr
    refine ⟨Nat.zero_le _, fun q nq nsq => ⟨_, _, rfl, ?_⟩⟩
    have s2 : Same (upd H r (.lst xs)) (upd (upd H r (.lst xs)) q (.lst [])) := same_new nq
    have rq : r ≠ q := fun z => by rw [← z, upd_same] at nq; cases nq
    have nH : H q = none := by rw [upd_ne rq.symm] at nq; exact nq
    have hp2 := (hp.same s1).same s2
    have ra : r ≠ a := fun z => hp.ne (by rw [← z]; exact nr)
    have qa : q ≠ a := fun z => hp.ne (by rw [← z]; exact nH)
    refine ⟨_, rfl, m, rfl, by omega, by omega, for_range (lo := 0) (n := m.toNat) (fun i σ H' => ∃ (ys zs : List V) (u : Option V), σ = [some (.ref a), some (.ref l), some (.int m), some (.ref r), some (.ref q), u] ∧
        (ys ++ zs).Perm xs ∧ ys.length = i ∧ H' r = some (.lst zs) ∧ H' q = some (.lst ys) ∧ PotAt a (N + i) H' ∧ ∀ b o, b ≠ a → b ≠ r → b ≠ q → H b = some o → H' b = some o) ?_ ?_ ?_⟩
    · refine ⟨[], xs, none, rfl, List.Perm.refl _, rfl, by rw [upd_ne rq, upd_same], upd_same, hp2, fun b o _ nr nq e => by rw [upd_ne nq, upd_ne nr]; exact e⟩
    · rintro i σ H' hi ⟨ys, zs, u, rfl, pm, hy, er, eq, pt, ex⟩
      have lz : zs.length = xs.length - i := by
        have := pm.length_eq
        rw [List.length_append, hy] at this
        omega
      refine ⟨_, rfl, .inl ⟨rfl, _, SqL.of eq⟩, _, rfl, .inl ⟨rfl, _, SqL.of er⟩, _, rfl, _, rfl, r, _, rfl, .inl (SqL.of er), ?_⟩
      refine ⟨a, _, N + i, rfl, pt, by omega, by omega, by omega, fun j H2 j0 j1 x2 p2 => ?_⟩
      have er2 : H2 r = some (.lst zs) := x2 _ _ ra er
      have eq2 : H2 q = some (.lst ys) := x2 _ _ qa eq
      obtain ⟨y, hyj⟩ : ∃ y, zs[j.toNat]? = some y := ⟨_, List.getElem?_eq_getElem (by omega)⟩
      have sx : seqIndex? j zs.length = some j.toNat := by
        unfold seqIndex?
        rw [if_neg (show ¬ j < 0 by omega)]
        simp only [Bool.and_eq_true, decide_eq_true_eq]
        rw [if_pos ⟨by omega, by omega⟩]
      refine ⟨r, zs, j, j.toNat, y, rfl, rfl, er2, by omega, by omega, sx, hyj, ?_⟩
      have eq3 : upd H2 r (.lst (zs.eraseIdx j.toNat)) q = some (.lst ys) := by rw [upd_ne rq.symm]; exact eq2
      refine ⟨q, _, _, rfl, rfl, eq3, ?_, ?_⟩
      · rw [sizeLine_eq]; omega
      refine ⟨ys ++ [y], zs.eraseIdx j.toNat, _, rfl, ?_, by rw [List.length_append, hy]; rfl, ?_, upd_same, ?_, fun b o na nbr nbq e => ?_⟩
      · rw [List.append_assoc]
        exact ((List.Perm.append_left ys (perm_erase hyj)).trans pm)
      · rw [upd_ne rq, upd_same]
      · obtain ⟨o, b, c, e, r0⟩ := p2
        exact ⟨o, b, c, by rw [upd_ne qa.symm, upd_ne ra.symm]; exact e, r0⟩
      · rw [upd_ne nbq, upd_ne nbr]
        exact x2 b o na (ex b o na nbr nbq e)
    · rintro σ H' ⟨ys, zs, u, rfl, pm, hy, er, eq, pt, ex⟩
      refine ⟨_, rfl, k ys q H' ⟨zs, pm⟩ hy (fun b o na e => ex b o na (ne_of_none e nr) (ne_of_none e nH) e) pt nH nsq eq⟩
end
end K6
set_option Elab.async false
set_option linter.all false
set_option maxRecDepth 100000
set_option maxHeartbeats 4000000
/-! Part D: comprehensions whose items are known; code that is never come to. -/
namespace Lk
open PySem PySem.Spec PyProof.Rows L2
theorem range_fm {α β : Type} (f : α → Option β) : ∀ xs : List α, (List.range xs.length).filterMap (fun i => (xs[i]?).bind f) = xs.filterMap f
  | [] => rfl
  | x :: xs => by
    rw [List.length_cons, List.range_succ_eq_map, List.filterMap_cons, List.filterMap_cons, List.filterMap_map]
    have ih := range_fm f xs
    have e : ((fun i => ((x :: xs)[i]?).bind f) ∘ Nat.succ) = fun i => (xs[i]?).bind f := by
      funext i
      simp
    rw [e, ih]
    rfl
/-- [e for t in it if ..]: which items go in, and as what, is told by f; nothing that was tracked changes -/
theorem lc_fm {α : Type} {J : It} {n : Nat} {G : Hp → Prop} {Y : Nat → Hp → V → Hp → Prop} (w : Walk J n G Y) {g : TG} {tt : TT} {te : TE} {vs : List Nat} {σ : L2.St} {H1 : Hp} {D : Addr} {Qd : Hp → Prop}
    (xs : List α) (f : α → Option V) (hn : xs.length = n) (few : n ≤ 100000) (nD : H1 D = none) (hG : ∀ H, Same H1 H → G H)
    (hs : ∀ i x a H H' (R : VK) (Rn : Hp → Prop), xs[i]? = some a → Same H1 H → Y i H x H' → (∀ H4 y, f a = some y → Same H H4 → R y H4) → (∀ H4, f a = none → Same H H4 → Rn H4) →
      g x (wipe σ vs) H' fun σ2 H2 => wipe σ2 vs = wipe σ vs ∧ tt σ2 H2 fun b H3 => if b = true then te σ2 H3 R else Rn H3)
    (hd : ∀ H, Same H1 H → H D = some (.lst (xs.filterMap f)) → Qd H) :
    ∃ W : Nat → Nat → Hp → Prop, (∃ m, W 0 m (upd H1 D (.lst []))) ∧ ∀ i m H, W i m H →
      (J.stop i H ∧ Qd H) ∨ (J.go i H ∧ ∃ Nx : Hp → Prop, (∀ H', Nx H' → ∃ m', m' < m ∧ W (i + 1) m' H') ∧ ∀ x H', J.yld i H x H' → g x (wipe σ vs) H' fun σ2 H2 => wipe σ2 vs = wipe σ vs ∧ tt σ2 H2 fun b H3 =>
        if b = true then te σ2 H3 fun y H4 => ∃ acc, H4 D = some (.lst acc) ∧ acc.length < sizeLine ∧ Nx (upd H4 D (.lst (acc ++ [y]))) else Nx H3) := by
  have len : ∀ i, ((List.range i).filterMap fun j => (xs[j]?).bind f).length ≤ i := fun i => by
    have := List.length_filterMap_le (fun j => (xs[j]?).bind f) (List.range i)
    rw [List.length_range] at this
    exact this
  refine lc_it w (fun i H => Same H1 H ∧ H D = some (.lst ((List.range i).filterMap fun j => (xs[j]?).bind f))) ⟨same_new nD, upd_same⟩ (fun i H _ p => hG H p.1) ?_ ?_
  · rintro i x H H' hi ⟨s, e⟩ y
    obtain ⟨a, ha⟩ : ∃ a, xs[i]? = some a := ⟨_, List.getElem?_eq_getElem (by omega)⟩
    refine hs i x a H H' _ _ ha s y (fun H4 z hz s4 => ?_) (fun H4 hz s4 => ?_)
    · refine ⟨_, s4 _ _ e, ?_, fun b o q => ?_, ?_⟩
      · have := len i
        rw [sizeLine_eq]
        omega
      · rw [upd_ne (ne_of_none q nD)]
        exact s4 _ _ (s _ _ q)
      · rw [upd_same, List.range_succ, List.filterMap_append]
        simp [ha, hz]
    · refine ⟨s.trans s4, ?_⟩
      rw [s4 _ _ e, List.range_succ, List.filterMap_append]
      simp [ha, hz]
  · rintro H ⟨s, e⟩
    refine hd H s ?_
    rw [e, ← hn, range_fm]
/-- what a comprehension over J asks -/
def LcR (J : It) (g : TG) (tt : TT) (te : TE) (vs : List Nat) (σ : L2.St) (H1 : Hp) (Q : VK) : Prop := ∀ D, H1 D = none → ∃ W : Nat → Nat → Hp → Prop, (∃ m, W 0 m (upd H1 D (.lst []))) ∧ ∀ i m H, W i m H →
  (J.stop i H ∧ Q (.ref D) H) ∨ (J.go i H ∧ ∃ Nx : Hp → Prop, (∀ H', Nx H' → ∃ m', m' < m ∧ W (i + 1) m' H') ∧ ∀ x H', J.yld i H x H' → g x (wipe σ vs) H' fun σ2 H2 => wipe σ2 vs = wipe σ vs ∧ tt σ2 H2 fun b H3 =>
    if b = true then te σ2 H3 fun y H4 => ∃ acc, H4 D = some (.lst acc) ∧ acc.length < sizeLine ∧ Nx (upd H4 D (.lst (acc ++ [y]))) else Nx H3)
/-- a list or a tuple -/
def Sq (K : PySem.W.Frag) (H : Hp) (a : Addr) (xs : List V) : Prop := SqL K H a xs ∨ SqT K H a xs
theorem sqT_same {K : PySem.W.Frag} {H H' : Hp} {a : Addr} {xs : List V} (e : Same H H') (h : SqT K H a xs) : SqT K H' a xs := by
  rcases h with (h | ⟨o, h⟩) | h
  · exact .inl (.inl (e _ _ h))
  · exact .inl (.inr ⟨o, e _ _ h⟩)
  · exact .inr h
theorem Sq.same {K : PySem.W.Frag} {H H' : Hp} {a : Addr} {xs : List V} (h : Sq K H a xs) (e : Same H H') : Sq K H' a xs := h.elim (fun h => .inl (e.seq h)) fun h => .inr (sqT_same e h)
theorem sqL_ext {K : PySem.W.Frag} {a l : Addr} {xs : List V} {H H' : Hp} (h : SqL K H l xs) (n : l ≠ a) (x : ExtP a H H') : SqL K H' l xs := by
  rcases h with (h | ⟨o, h⟩) | h
  · exact .inl (.inl (x _ _ n h))
  · exact .inl (.inr ⟨o, x _ _ n h⟩)
  · exact .inr h
theorem sqT_ext {K : PySem.W.Frag} {a l : Addr} {xs : List V} {H H' : Hp} (h : SqT K H l xs) (n : l ≠ a) (x : ExtP a H H') : SqT K H' l xs := by
  rcases h with (h | ⟨o, h⟩) | h
  · exact .inl (.inl (x _ _ n h))
  · exact .inl (.inr ⟨o, x _ _ n h⟩)
  · exact .inr h
theorem Sq.ext {K : PySem.W.Frag} {a l : Addr} {xs : List V} {H H' : Hp} (h : Sq K H l xs) (n : l ≠ a) (x : ExtP a H H') : Sq K H' l xs := h.elim (fun h => .inl (sqL_ext h n x)) fun h => .inr (sqT_ext h n x)
/-- for .. in x, x a name that holds a list or a tuple -/
def iSeq (K : PySem.W.Frag) (i : Nat) : TI := fun σ H R => ∃ a, σ[i]? = some (some (.ref a)) ∧ (((∃ xs, SqL K H a xs) ∧ R (Itl K a) H) ∨ ((∃ xs, SqT K H a xs) ∧ R (Itt K a) H))
theorem pi_seq {X : Cx} {tg e : Expr} {i : Nat} (h1 : PI X tg e (iList X.K (tVar i))) (h2 : PI X tg e (iTup X.K (tVar i))) : PI X tg e (iSeq X.K i) := by
  constructor
  rintro pins s σ H R I ⟨a, e, ⟨hx, hr⟩ | ⟨hx, hr⟩⟩
  · exact h1.run pins s σ H R I ⟨_, e, a, rfl, hx, hr⟩
  · exact h2.run pins s σ H R I ⟨_, e, a, rfl, hx, hr⟩
theorem lc_over {α : Type} {J : It} {G : Hp → Prop} {vs0 : List V} (w : Walk J vs0.length G (YAt vs0)) {g : TG} {tt : TT} {te : TE} {vs : List Nat} {σ : L2.St} {H1 : Hp} {Q : VK}
    (xs : List α) (e : α → V) (f : α → Option V) (hv : vs0 = xs.map e) (few : xs.length ≤ 100000) (hG : ∀ H, Same H1 H → G H)
    (hs : ∀ (i : Nat) b H (R : VK) (Rn : Hp → Prop), xs[i]? = some b → Same H1 H → (∀ H4 y, f b = some y → Same H H4 → R y H4) → (∀ H4, f b = none → Same H H4 → Rn H4) →
      g (e b) (wipe σ vs) H fun σ2 H2 => wipe σ2 vs = wipe σ vs ∧ tt σ2 H2 fun c H3 => if c = true then te σ2 H3 R else Rn H3)
    (hd : ∀ D H, H1 D = none → Same H1 H → H D = some (.lst (xs.filterMap f)) → Q (.ref D) H) : LcR J g tt te vs σ H1 Q := by
  intro D nD
  have hl : vs0.length = xs.length := by rw [hv, List.length_map]
  refine lc_fm w xs f (by rw [hl]) (by rw [hl]; exact few) nD hG ?_ (fun H s e => hd D H nD s e)
  rintro i x b H H' R Rn hb s ⟨rfl, hx⟩ k1 k2
  have : x = e b := by
    rw [hv, List.getElem?_map, hb] at hx
    exact (Option.some.inj hx).symm
  subst this
  exact hs i b _ R Rn hb s k1 k2
/-- a comprehension over a list or a tuple -/
theorem seq_lc {α : Type} {K : PySem.W.Frag} {a : Addr} {g : TG} {tt : TT} {te : TE} {vs : List Nat} {σ : L2.St} {H1 : Hp} {Q : VK}
    (xs : List α) (e : α → V) (f : α → Option V) (hq : Sq K H1 a (xs.map e)) (few : xs.length ≤ 100000)
    (hs : ∀ (i : Nat) b H (R : VK) (Rn : Hp → Prop), xs[i]? = some b → Same H1 H → (∀ H4 y, f b = some y → Same H H4 → R y H4) → (∀ H4, f b = none → Same H H4 → Rn H4) →
      g (e b) (wipe σ vs) H fun σ2 H2 => wipe σ2 vs = wipe σ vs ∧ tt σ2 H2 fun c H3 => if c = true then te σ2 H3 R else Rn H3)
    (hd : ∀ D H, H1 D = none → Same H1 H → H D = some (.lst (xs.filterMap f)) → Q (.ref D) H) :
    ((∃ zs, SqL K H1 a zs) ∧ LcR (Itl K a) g tt te vs σ H1 Q) ∨ ((∃ zs, SqT K H1 a zs) ∧ LcR (Itt K a) g tt te vs σ H1 Q) := by
  rcases hq with hq | hq
  · exact .inl ⟨⟨_, hq⟩, lc_over walk_list xs e f rfl few (fun H s => s.seq hq) hs hd⟩
  · exact .inr ⟨⟨_, hq⟩, lc_over walk_tup xs e f rfl few (fun H s => sqT_same s hq) hs hd⟩
/-- what is never come to -/
theorem ps_no {X : Cx} {st : Stmt} : PS X st (fun _ _ _ => False) := ⟨fun _ _ _ _ _ _ h => h.elim⟩
theorem pss_no {X : Cx} {st : List Stmt} : PSs X st (fun _ _ _ => False) := ⟨fun _ _ _ _ _ _ h => h.elim⟩
theorem pe_no {X : Cx} {e : Expr} : PE X e (fun _ _ _ => False) := ⟨fun _ _ _ _ _ _ h => h.elim⟩
theorem pt_no {X : Cx} {e : Expr} : PT X e (fun _ _ _ => False) := ⟨fun _ _ _ _ _ _ h => h.elim⟩
theorem pw_no {X : Cx} {e : Expr} : PW X e (fun _ _ _ => False) := ⟨fun _ _ _ _ _ _ _ h => h.elim⟩
theorem iteB {A B : Prop} {c : Bool} (h : c = false) (hb : B) : if c = true then A else B := by
  rw [h]
  exact iteF hb
theorem iteA {A B : Prop} {c : Bool} (h : c = true) (ha : A) : if c = true then A else B := by
  rw [h]
  exact iteT ha
end Lk
set_option Elab.async false
set_option linter.all false
set_option maxRecDepth 100000
set_option maxHeartbeats 4000000
/-! Part T: new tuples that have no dict of their own; their methods. -/
namespace Lk
open PySem PySem.Spec PyProof.Rows L2
/-- a new tuple that is known as an object: no dict -/
def TupX (H : Hp) (a : Addr) (xs : List V) : Prop := ∃ ob, H a = some (.frz ob (.tup xs)) ∧ ob.cls = .type "tuple" ∧ ob.dict = none
theorem TupX.sq {K : PySem.W.Frag} {H : Hp} {a : Addr} {xs : List V} (h : TupX H a xs) : SqT K H a xs := by
  obtain ⟨ob, e, _⟩ := h
  exact .inl (.inr ⟨ob, e⟩)
theorem TupX.same {H H' : Hp} {a : Addr} {xs : List V} (h : TupX H a xs) (s : Same H H') : TupX H' a xs := by
  obtain ⟨ob, e, r⟩ := h
  exact ⟨ob, s _ _ e, r⟩
/-- tuple(x), x a list: a new tuple without a dict -/
def kTupX (K : PySem.W.Frag) (x : V) (H : Hp) (Q : VK) : Prop := ∃ l xs, x = .ref l ∧ SqL K H l xs ∧ ∀ a H', H a = none → Same H H' → TupX H' a xs → Q (.ref a) H'
theorem pe_tupleX {X : Cx} {a : Expr} {ta : TE} {u pos : Pos} (hg : Gl X "tuple") (hm : X.mg "tuple" = none) (ha : PE X a ta) (na : starEach [a] X.env = (false, eval a X.env) :: starEach [] X.env := by rfl) :
    PE X (.Call (.Name "tuple" u) [a] [] pos) (tThen ta (kTupX X.K)) := by
  refine ⟨fun pins s σ H Q I h => Call_ (ld_blt I hg hm boot_tuple (callWith_type1 (one_arg ha I h (fun v s2 x H2 I2 r q => ?_) na) na rfl))⟩
  obtain ⟨l, xs, rfl, sq, q⟩ := q
  obtain rfl : v = .ref l := r
  obtain ⟨its, rv, pl, few⟩ := I2.list sq
  refine call_tuple_list pl.isList (fun h' keep => ?_) (by rw [List.size_toArray, ← rv.length] <;> exact few)
  have I3 : Inv X pins σ H2 { s2 with heap := h' } := I2.kept (t' := s2.toks) keep
  have at_ : (h'.push { cls := .type "tuple", data := .seq its.toArray }).get? h'.objs.size = some { cls := .type "tuple", data := .seq its.toArray } := Heap.get?_push_size _ rfl
  have I4 : Inv X pins σ (upd H2 h'.objs.size (.frz { cls := .type "tuple", data := .seq its.toArray } (.tup xs))) { s2 with heap := h'.push { cls := .type "tuple", data := .seq its.toArray } } :=
    I3.laid (t' := s2.toks) (fun b o e => Heap.get?_push_of_some _ e) (Nat.le_refl _) (show ObjOk X.prog X.w _ _ _ (.frz _ (.tup xs)) from ⟨at_, few, its, rv, IsTup.new _ _⟩)
  have fr := I3.hok.fresh (Nat.le_refl h'.objs.size)
  exact ⟨.ref h'.objs.size, _, I4, rfl, q _ _ fr (same_new fr) ⟨_, upd_same, rfl, rfl⟩⟩
/-- t.m(e ..), t such a tuple -/
def tBMX (r : V → List V → Hp → VK → Prop) (to : TE) (t : TA) : TE := fun σ H Q => to σ H fun x H1 => (∃ a xs, x = .ref a ∧ TupX H1 a xs) ∧ t σ H1 fun vs H2 => r x vs H2 Q
theorem pe_bmX {X : Cx} {o e : Expr} {es : List Expr} {to : TE} {t : TA} {name : Str} {apos cpos : Pos} {id : String} {r : V → List V → Hp → VK → Prop} (slot : Slot "tuple" name id) (hty : typeOf (.builtin id) = pure (.type "method_descriptor")) (hm : MtR X id r) (ho : PE X o to) (ha : PA X (e :: es) t)
    (hbase : attributeBase o name X.env (eval o X.env) = eval o X.env := by rfl)
    (hfew : ((backTo cpos (starEach (e :: es) X.env)).all (fun y => !y.1) && (backToKw cpos (keywordEach [] X.env)).all (fun y => y.1.isSome) && decide ((e :: es).length + ([] : List Keyword).length + (if ([] : List Keyword).isEmpty then 0 else 1) < 30)) = true := by rfl)
    (hline : (apos.endLine == cpos.line) = true := by rfl) (hs : starEach (e :: es) X.env = (false, eval e X.env) :: starEach es X.env := by rfl) (hpl : (backTo cpos (starEach es X.env)).any (·.1) = false := by rfl) : PE X (.Call (.Attribute o name apos) (e :: es) [] cpos) (tBMX r to t) := by
  refine ⟨fun pins s σ H Q I h => wpAny_Call_method_late hbase hfew hline rfl (thn (ho.run pins s σ H _ I h) fun v s1 ⟨x, H1, I1, r1, ⟨a, xs, ex, ob, ea, ec, ed⟩, q1⟩ => ?_)⟩
  subst ex
  obtain rfl : v = .ref a := r1
  obtain ⟨at_, _⟩ := (show ObjOk X.prog X.w H1 s1.heap a (.frz ob (.tup xs)) from I1.hok a _ ea)
  refine ⟨"tuple", id, PySem.F.plainAttrs_tuple, slot, hty, ⟨ob, at_, ec⟩, fun b e => ?_, ?_⟩
  · cases e
    exact ⟨ob, at_, ed⟩
  have go := ha.run cpos pins s1 σ H1 _ I1 q1
  rw [hs] at go ⊢
  refine Calls.callWith_builtin (by show (false || (backTo cpos (starEach es X.env)).any (·.1)) = false; rw [hpl] <;> rfl) (Calls.evalArgs_plain ?_)
  exact thn go fun us s2 ⟨vs, H2, I2, r2, q2⟩ => hm pins s2 σ H2 (.ref a) vs (.ref a) us Q I2 rfl r2 q2
end Lk
set_option Elab.async false
set_option linter.all false
set_option maxRecDepth 100000
set_option maxHeartbeats 4000000
namespace K6
open PySem PySem.Spec PyProof.Rows L2 Lk
abbrev sNames : Stmt := top 26
abbrev sLotOf : Stmt := top 27
abbrev sALot : Stmt := top 31
theorem perm_map {α β : Type} {f : α → β} {l1 l2 : List β} (h : l1.Perm l2) : ∀ xs : List α, l2 = xs.map f → ∃ zs : List α, zs.Perm xs ∧ l1 = zs.map f := by
  induction h with
  | nil =>
    intro xs e
    have : xs = [] := List.map_eq_nil_iff.mp e.symm
    subst this
    exact ⟨[], List.Perm.refl _, rfl⟩
  | cons x _ ih =>
    intro xs e
    cases xs with
    | nil => cases e
    | cons a xs =>
      injection e with e1 e2
      obtain ⟨zs, p, q⟩ := ih xs e2
      exact ⟨a :: zs, p.cons a, by rw [List.map_cons, ← q, ← e1]⟩
  | swap x y l =>
    intro xs e
    match xs, e with
    | a :: b :: xs, e =>
      injection e with e1 e2
      injection e2 with e2 e3
      exact ⟨b :: a :: xs, List.Perm.swap a b xs, by rw [List.map_cons, List.map_cons, ← e1, ← e2, ← e3]⟩
  | trans _ _ ih1 ih2 =>
    intro xs e
    obtain ⟨ys, p, q⟩ := ih2 xs e
    obtain ⟨zs, p', q'⟩ := ih1 ys q
    exact ⟨zs, p'.trans p, q'⟩
theorem Sel.map {α β : Type} {f : α → β} {ys : List β} {xs : List α} (h : Sel ys (xs.map f)) : ∃ zs, ys = zs.map f ∧ Sel zs xs := by
  obtain ⟨rs, p⟩ := h
  obtain ⟨ws, q, e⟩ := perm_map p xs rfl
  have e1 : ys = (ws.take ys.length).map f := by rw [List.map_take, ← e, List.take_left]
  refine ⟨ws.take ys.length, e1, ws.drop ys.length, ?_⟩
  rw [List.take_append_drop]
  exact q
theorem inV_str (z : Str) : ∀ zs : List Str, inV (.str z) (zs.map V.str) = decide (z ∈ zs)
  | [] => rfl
  | y :: ys => by
    show (eqV (.str y) (.str z) || inV (.str z) (ys.map V.str)) = _
    rw [inV_str z ys]
    by_cases e : z = y
    · subst e
      simp [eqV]
    · have e' : ¬ y = z := fun q => e q.symm
      simp [eqV, e, e']
theorem flat_strs : ∀ zs : List Str, (zs.map V.str).all flatV = true
  | [] => rfl
  | _ :: ys => by
    show (true && (ys.map V.str).all flatV) = true
    rw [flat_strs ys]
    rfl
section
variable {P : Program} {w : World} {K : PySem.W.Frag} {mg : Str → Option Value} {base : Heap} {f : Addr} {fd : FuncData}
/-! ### _law_names -/
def namePool : List Str := ["a", "b", "c", "d", "e", "f", "keeper", "parts", "write", "ask", "zzzzzzzz", "x"]
def partPool : List Str := ["x", "y", "z", "w", "keeper", "a"]
def spNames : Sp := fun vs H Q _ => ∃ (a : Addr) (fw up : Int) (N : Nat), vs = [.ref a, .int fw, .int up] ∧ PotAt a N H ∧ N ≤ 100000 ∧ 0 ≤ fw ∧ fw ≤ up ∧ up ≤ 12 ∧
  ∀ (ys : List Str) (p : Addr) (H' : Hp), Sel ys namePool → fw ≤ ys.length → ys.length ≤ up → ExtP a H H' → PotAt a (N + 20) H' → H p = none → TupX H' p (ys.map V.str) → Q (.ref p) H'
theorem scNames : FnScope ["pot", "few", "upmost", "pool"] ["pot", "few", "upmost"] (defScope sNames) := ⟨rfl, rfl, rfl, by decide +kernel, rfl, by decide +kernel, by decide +kernel⟩
theorem ok_names {f1 f2 : Addr} {fd1 fd2 : FuncData} (F : Fun K "_law_names" "_law_names" sNames f fd) (T : Bl mg) (hT : mg "tuple" = none) (F1 : Fun K "_law_take" "_law_take" sTake f1 fd1) (b1 : Binds K fd1 ["pot", "upto"] []) (m1 : mg "_law_take" = some (.ref f1))
    (F2 : Fun K "_law_some" "_law_some" sSome f2 fd2) (b2 : Binds K fd2 ["pot", "pool", "amount"] []) (m2 : mg "_law_some" = some (.ref f2)) : FnOk P w K mg base CX0 3 f fd ["pot", "few", "upmost"] spNames := by
  have G1 : FnOk P w K mg base CX0 1 f1 fd1 ["pot", "upto"] spTake := ok_take F1 T
  have G2 : FnOk P w K mg base CX0 2 f2 fd2 ["pot", "pool", "amount"] (spSome K) := ok_some F2 T F1 b1 m1
  refine F.ok scNames (fun vs H Q E h => ?_) (fun cdv A outer s H vs Q E hr h => ?_)
  · obtain ⟨a, fw, up, N, rfl, _⟩ := h
    rfl
  · obtain ⟨a, fw, up, N, rfl, hp, hN, f0, fu, u12, k⟩ := h
    have nd := scNames.nd
    have hr1 : Room 1 _ := hr.mono (by decide)
    have hr2 : Room 2 _ := hr.mono (by decide)
    refine ⟨_, pss_cons (ps_set (i := 3) nd rfl (.inl rfl) (pe_lst (by exact (pa_cons pe_str (pa_cons pe_str (pa_cons pe_str (pa_cons pe_str (pa_cons pe_str (pa_cons pe_str (pa_cons pe_str (pa_cons pe_str (pa_cons pe_str (pa_cons pe_str (pa_cons pe_str (pa_cons pe_str pa_nil))))))))))))))
      ) (pss_one (ps_ret (pe_tupleX (by rfl) hT (pe_call G2 hr2 rfl m2 F2.kp b2 .nil pass0 (pa_cons (pv 0) (pa_cons (pv 3) (pa_cons (pe_op op_add (pv 1) (pe_call G1 hr1 rfl m1 F1.kp b1 .nil pass0 (pa_cons (pv 0) (pa_cons (pe_op op_add (pe_op op_sub (pv 2) (pv 1)) pe_int) pa_nil)))) pa_nil))))))), ?_⟩
    refine ⟨few_ok rfl, fun l nl => ?_⟩
    have s1 : Same H (upd H l (.lst (namePool.map V.str))) := same_new nl
    have hl : (upd H l (.lst (namePool.map V.str))) l = some (.lst (namePool.map V.str)) := upd_same
    have la : l ≠ a := fun z => hp.ne (by rw [← z]; exact nl)
    refine ⟨_, rfl, _, rfl, _, rfl, _, rfl, _, rfl, _, rfl, _, _, rfl, rfl, _, _, rfl, rfl, a, _, N, rfl, hp.same s1, by omega, by omega, by omega, fun i H2 i0 i1 x2 p2 => ?_⟩
    refine ⟨_, _, rfl, rfl, a, l, fw + i, N + 1, namePool.map V.str, rfl, p2, by omega, .inl (SqL.of (x2 _ _ la hl)), by omega, by show fw + i ≤ 12; omega, by decide, fun ys p H' sel hy ex pt np ns e => ?_⟩
    obtain ⟨zs, rfl, sz⟩ := sel.map
    rw [List.length_map] at hy
    refine ⟨p, _, rfl, SqL.of e, fun q H3 nq s3 tq => ?_⟩
    have X : ExtP a H H' := ((ExtP.of s1).trans x2).trans ex
    have qa : q ≠ a := fun z => pt.ne (by rw [← z]; exact nq)
    exact k zs q H3 sz (by omega) (by omega) (X.trans (.of s3)) ((pt.same s3).mono (by omega)) (by
      cases z : H q with
      | none => rfl
      | some u => rw [X _ _ qa z] at nq; cases nq) tq
theorem fm_if (q : Str → Prop) [DecidablePred q] : ∀ ps : List Str, ps.filterMap (fun x => if q x then some (V.str x) else none) = (ps.filter fun x => decide (q x)).map V.str
  | [] => rfl
  | p :: ps => by
    have ih := fm_if q ps
    by_cases h : q p
    · simp [List.filterMap_cons, List.filter_cons, h, ih]
    · simp [List.filterMap_cons, List.filter_cons, h, ih]
/-! ### _law_lot_of -/
def spLotOf (K : PySem.W.Frag) : Sp := fun vs H Q _ => ∃ (n s : Addr) (ns ss : List Str), vs = [.ref n, .ref s] ∧ Sq K H n (ns.map V.str) ∧ Sq K H s (ss.map V.str) ∧ ns.length ≤ 100 ∧
  ∀ p H', Same H H' → H p = none → H' p = some (.tup ((ns.filter fun p => decide (p ∈ ss)).map V.str)) → Q (.ref p) H'
theorem scLotOf : FnScope ["names", "some", "name"] ["names", "some"] (defScope sLotOf) := ⟨rfl, rfl, rfl, by decide +kernel, rfl, by decide +kernel, by decide +kernel⟩
theorem ok_lotOf (F : Fun K "_law_lot_of" "_law_lot_of" sLotOf f fd) (hT : mg "tuple" = none) : FnOk P w K mg base CX0 1 f fd ["names", "some"] (spLotOf K) := by
  refine F.ok scLotOf (fun vs H Q E h => ?_) (fun cdv A outer s H vs Q E hr h => ?_)
  · obtain ⟨n, q, ns, ss, rfl, _⟩ := h
    rfl
  · obtain ⟨n, q, ns, ss, rfl, hn, hs, n100, k⟩ := h
    have nd := scLotOf.nd
    refine ⟨_, pss_one (ps_ret (pe_tupleOf (by rfl) hT (pe_lc (own := [("name", 2)]) (g := gName 2) (tt := tTest (tOp (rIn K false) (tVar 2) (tVar 1))) rfl nd (pi_seq (pi_list (pv 0)) (pi_tup (pv 0))) (blkOk_by (N := ["names", "some", "name"]) (sc := defScope sLotOf) (by decide +kernel))
        (fun _ _ _ _ _ => pg_name (i := 2) nd rfl (Or.inl rfl)) (fun _ _ _ _ _ => pts_one (pt_cmpR op_in_seq (pv 2) (pv 1) rfl)) (fun _ _ _ _ _ => pv 2)))), ?_⟩
    refine ⟨n, rfl, seq_lc (Q := fun x H1 => kTup K x H1 Q) ns V.str (fun p => if p ∈ ss then some (V.str p) else none) hn (by omega) ?_ ?_⟩
    · intro j b H' R Rn hb s' k1 k2
      refine ⟨rfl, _, rfl, _, rfl, q, _, rfl, hs.same s', rfl, flat_strs _, _, rfl, ?_⟩
      rw [inV_str]
      by_cases hz : b ∈ ss
      · refine iteA (by simp [hz]) ?_
        exact ⟨_, rfl, k1 _ _ (by simp [hz]) (Same.refl _)⟩
      · refine iteB (by simp [hz]) ?_
        exact k2 _ (by simp [hz]) (Same.refl _)
    · intro D H' nD s' e
      rw [fm_if] at e
      exact .inl ⟨D, _, rfl, SqL.of e, fun T nT => k T _ (s'.trans (same_new nT)) (s'.free nT) upd_same⟩
/-! ### _law_a_lot -/
theorem filter_sel {ns zs : List Str} (h : Sel zs ns) (nd : ns.Nodup) : (ns.filter fun p => decide (p ∈ zs)).length = zs.length := by
  have p : (ns.filter fun p => decide (p ∈ zs)).Perm zs := by
    refine (List.perm_ext_iff_of_nodup (nd.filter _) (h.nodup nd)).mpr fun x => ?_
    rw [List.mem_filter]
    constructor
    · intro q
      exact of_decide_eq_true q.2
    · intro q
      exact ⟨h.sub x q, decide_eq_true q⟩
  exact p.length_eq
def spALot (K : PySem.W.Frag) : Sp := fun vs H Q _ => ∃ (a n : Addr) (fw : Int) (N : Nat) (ns : List Str), vs = [.ref a, .ref n, .int fw] ∧ PotAt a N H ∧ N ≤ 100000 ∧ n ≠ a ∧ Sq K H n (ns.map V.str) ∧ ns.Nodup ∧ ns.length ≤ 12 ∧ 0 ≤ fw ∧ fw ≤ ns.length ∧
  ∀ (zs : List Str) (p : Addr) (H' : Hp), zs.Sublist ns → fw ≤ zs.length → ExtP a H H' → PotAt a (N + 20) H' → H p = none → H' p = some (.tup (zs.map V.str)) → Q (.ref p) H'
theorem scALot : FnScope ["pot", "names", "few"] ["pot", "names", "few"] (defScope sALot) := ⟨rfl, rfl, rfl, by decide +kernel, rfl, by decide +kernel, by decide +kernel⟩
theorem ok_aLot {f1 f2 f3 : Addr} {fd1 fd2 fd3 : FuncData} (F : Fun K "_law_a_lot" "_law_a_lot" sALot f fd) (T : Bl mg) (hT : mg "tuple" = none) (F1 : Fun K "_law_take" "_law_take" sTake f1 fd1) (b1 : Binds K fd1 ["pot", "upto"] []) (m1 : mg "_law_take" = some (.ref f1))
    (F2 : Fun K "_law_some" "_law_some" sSome f2 fd2) (b2 : Binds K fd2 ["pot", "pool", "amount"] []) (m2 : mg "_law_some" = some (.ref f2)) (F3 : Fun K "_law_lot_of" "_law_lot_of" sLotOf f3 fd3) (b3 : Binds K fd3 ["names", "some"] []) (m3 : mg "_law_lot_of" = some (.ref f3)) :
    FnOk P w K mg base CX0 3 f fd ["pot", "names", "few"] (spALot K) := by
  have G1 : FnOk P w K mg base CX0 1 f1 fd1 ["pot", "upto"] spTake := ok_take F1 T
  have G2 : FnOk P w K mg base CX0 2 f2 fd2 ["pot", "pool", "amount"] (spSome K) := ok_some F2 T F1 b1 m1
  have G3 : FnOk P w K mg base CX0 1 f3 fd3 ["names", "some"] (spLotOf K) := ok_lotOf F3 hT
  refine F.ok scALot (fun vs H Q E h => ?_) (fun cdv A outer s H vs Q E hr h => ?_)
  · obtain ⟨a, n, fw, N, ns, rfl, _⟩ := h
    rfl
  · obtain ⟨a, n, fw, N, ns, rfl, hp, hN, na, hn, nn, n12, f0, fn, k⟩ := h
    have nd := scALot.nd
    have hr1 : Room 1 _ := hr.mono (by decide)
    have hr2 : Room 2 _ := hr.mono (by decide)
    refine ⟨_, pss_one (ps_ret (pe_call G3 hr1 (by rfl) m3 F3.kp b3 .nil pass0 (pa_cons (pv 1) (pa_cons (pe_call G2 hr2 (by rfl) m2 F2.kp b2 .nil pass0 (pa_cons (pv 0) (pa_cons (pv 1) (pa_cons (pe_op op_add (pv 2) (pe_call G1 hr1 (by rfl) m1 F1.kp b1 .nil pass0 (pa_cons (pv 0)
        (pa_cons (pe_op op_add (pe_op op_sub (pe_callB call_len_seq (by rfl) T.len PySem.boot_len (pa_cons (pv 1) pa_nil)) (pv 2)) pe_int) pa_nil)))) pa_nil)))) pa_nil)))), ?_⟩
    refine ⟨_, rfl, _, rfl, _, rfl, _, rfl, _, rfl, _, rfl, n, _, rfl, hn, _, rfl, _, _, rfl, rfl, _, _, rfl, rfl, a, _, N, rfl, hp, by omega, by rw [List.length_map]; omega, by rw [List.length_map]; omega, fun i H2 i0 i1 x2 p2 => ?_⟩
    rw [List.length_map] at i1
    refine ⟨_, _, rfl, rfl, a, n, fw + i, N + 1, ns.map V.str, rfl, p2, by omega, hn.ext na x2, by omega, by rw [List.length_map]; omega, by rw [List.length_map]; omega, fun ys p H3 sel hy x3 p3 np nsp e => ?_⟩
    obtain ⟨zs, rfl, sz⟩ := sel.map
    rw [List.length_map] at hy
    refine ⟨n, p, ns, zs, rfl, (hn.ext na x2).ext na x3, .inl (SqL.of e), by omega, fun q H4 s4 nq eq => ?_⟩
    have X : ExtP a H H3 := x2.trans x3
    have qa : q ≠ a := fun z => p3.ne (by rw [← z]; exact nq)
    exact k _ q H4 List.filter_sublist (by rw [filter_sel sz nn]; omega) (X.trans (.of s4)) ((p3.same s4).mono (by omega)) (by
      cases z : H q with
      | none => rfl
      | some u => rw [X _ _ qa z] at nq; cases nq) eq
/-! ### _law_parts -/
def spParts : Sp := fun vs H Q _ => ∃ (a : Addr) (up : Int) (N : Nat), vs = [.ref a, .int up] ∧ PotAt a N H ∧ N ≤ 100000 ∧ 1 ≤ up ∧ up ≤ 4 ∧
  ∀ (ys : List Str) (p : Addr) (H' : Hp), Sel ys partPool → 1 ≤ ys.length → ys.length ≤ up → ExtP a H H' → PotAt a (N + 10) H' → H p = none → H' p = some (.tup (ys.map V.str)) → Q (.ref p) H'
/-! ### _law_piece -/
/-- a piece: some parts, in their sequence -/
def PieceOk (ps piece : List Str) : Prop := piece ≠ [] ∧ piece = ps.filter fun p => decide (p ∈ piece)
def spPiece (K : PySem.W.Frag) : Sp := fun vs H Q _ => ∃ (a l : Addr) (N : Nat) (ps : List Str), vs = [.ref a, .ref l] ∧ PotAt a N H ∧ N ≤ 100000 ∧ Sq K H l (ps.map V.str) ∧ l ≠ a ∧
  0 < ps.length ∧ ps.length ≤ 4 ∧
  ∀ (piece : List Str) (p : Addr) (H' : Hp), PieceOk ps piece → ExtP a H H' → PotAt a (N + 10) H' → H p = none → H' p = some (.tup (piece.map V.str)) → Q (.ref p) H'
def tAmt (K : PySem.W.Frag) : TE := fun σ H Q => ∃ (a l : Addr) (N : Nat) (ps : List Str), σ[0]? = some (some (.ref a)) ∧ σ[1]? = some (some (.ref l)) ∧ PotAt a N H ∧ N ≤ 100000 ∧ Sq K H l (ps.map V.str) ∧ l ≠ a ∧ 0 < ps.length ∧ ps.length ≤ 4 ∧
  ∀ (n : Int) (H1 : Hp), 1 ≤ n → n ≤ ps.length → ExtP a H H1 → PotAt a (N + 2) H1 → Q (.int n) H1
end
end K6
set_option Elab.async false
set_option linter.all false
set_option maxRecDepth 100000
set_option maxHeartbeats 4000000
/-! Part E: == by an own __eq__, whatever it answers and whatever stands on the right. -/
namespace Lk
open PySem PySem.Spec PyProof.Rows L2
/-- x == y, x an instance of the class at C whose __eq__ keeps the promise sp -/
def rEqI (K : PySem.W.Frag) (C : Addr) (sp : Sp) : R2 := fun x y H Q => ∃ a dx fs t, x = .ref a ∧ H a = some (.ins C dx fs) ∧ TyX K H y t ∧ PySem.W.notFirst K C t = true ∧ sp [x, y] H (fun v H' => ∃ b, v = .bl b ∧ Q v H') E0
theorem op_eqI {X : Cx} {C f : Addr} {n : Nat} {fd : FuncData} {ps : List Str} {sp : Sp} (F : FnOk X.prog X.w X.K X.mg X.base CX0 n f fd ps sp) (hs : PySem.W.findIn X.K (.ref C) "__eq__" = some (some (.ref f))) (hf : PySem.W.isFn X.K (.ref f) = true) (hb : Binds X.K fd ps []) (hr : Room n X.A) :
    OpR X (compareOp .Eq) (rEqI X.K C sp) := by
  rintro pins s σ H x y v u Q I rx ry ⟨a, dx, fs, t, rfl, ha, ty, nf, hsp⟩
  obtain rfl : v = .ref a := rx
  obtain ⟨mA, J, _⟩ := ins_get I.hok ha
  obtain ⟨od, J, _⟩ := J.look
  obtain ⟨m, fr⟩ := I.fr
  obtain ⟨Z, kit, hZ, _⟩ := kit_of I ry ty
  show wpAny (model X.prog X.w) X.A (richCompare .Eq (.ref a) u) (EP X pins σ Q) X.xe s
  refine PySem.W.cmp_K (op := .Eq) (tb := t) hr.units0 fr I.ok.mod.kin J (kit.ty _ _ I.kIn hZ) nf hs hf ?_
  have rel : Vals [V.ref a, y] [Value.ref a, u] := .cons rfl (.cons ry .nil)
  have len := F.len _ _ _ _ hsp
  have bind := hb s [Value.ref a, u] I.kIn (by simpa using len)
  rw [List.append_nil] at bind
  refine wpAny_call (codeAny_mono (F.run X.A X.stack s H ⟨[.ref a, u], []⟩ [.ref a, u] [.ref a, y] _ E0 hr I.env0 bind rel hsp) fun r s' hq => ?_)
  cases r with
  | error e => exact hq.elim
  | ok fl =>
    cases fl with
    | ret w =>
      obtain ⟨z, H', J', rz, b, rfl, q⟩ := I.after hq
      cases rz
      exact ⟨.bl b, H', J', rfl, q⟩
    | next => exact False.elim hq
    | brk => exact False.elim hq
    | cont => exact False.elim hq
/-- the class at C has an own __eq__ at f, no __ne__, and no class above it but object -/
def NeC (K : PySem.W.Frag) (C f : Addr) : Prop := ∀ (h : Heap) (x : Addr) (o : Obj), K.In h → h.get? x = some o → o.cls = .ref C → h.OwnEqNoNe x C f "object" [.type "object"]
/-- x != y of two instances of such a class -/
def rNeI (C : Addr) (sp : Sp) : R2 := fun x y H Q => ∃ a b dx dy fs gs, x = .ref a ∧ y = .ref b ∧ H a = some (.ins C dx fs) ∧ H b = some (.ins C dy gs) ∧ sp [x, y] H (fun v H' => ∃ r, v = .bl r ∧ Q (.bl (!r)) H') E0
theorem op_neI {X : Cx} {C f : Addr} {n : Nat} {fd : FuncData} {ps : List Str} {sp : Sp} (F : FnOk X.prog X.w X.K X.mg X.base CX0 n f fd ps sp) (N : NeC X.K C f) (hb : Binds X.K fd ps []) (hr : Room (n + 1) X.A) : OpR X (compareOp .NotEq) (rNeI C sp) := by
  rintro pins s σ H x y v u Q I rx ry ⟨a, b, dx, dy, fs, gs, rfl, rfl, ha, hb2, hsp⟩
  obtain rfl : v = .ref a := rx
  obtain rfl : u = .ref b := ry
  obtain ⟨mA, J, _⟩ := ins_get I.hok ha
  obtain ⟨mB, J2, _⟩ := ins_get I.hok hb2
  obtain ⟨od, J, _⟩ := J.look
  obtain ⟨od2, J2, _⟩ := J2.look
  have sb : Sub X (n + 1) X.A := ⟨hr, rfl⟩
  have e := I.env0
  have e1 : Env0 X.prog X.w X.K X.mg X.base X.A.in1 X.stack s H := ⟨by rw [sb.in1.fr]; exact e.frames, e.mod, e.bs, e.bsz, e.funs, e.frf, e.hok, e.bare⟩
  have rel : Vals [V.ref a, V.ref b] [Value.ref a, Value.ref b] := .cons rfl (.cons rfl .nil)
  have len := F.len _ _ _ _ hsp
  have bind := hb s [Value.ref a, Value.ref b] I.kIn (by simpa using len)
  rw [List.append_nil] at bind
  obtain ⟨hp, g, d, t, os⟩ := s
  refine compareOp_ne_ownEq PySem.F.cmp_object (N hp a _ I.kIn J.at_ J.cls) J2.at_ J2.cls (by have := hr.units; omega) ?_
  refine wpAny_call (codeAny_mono (F.run X.A.in1 X.stack _ H ⟨[.ref a, .ref b], []⟩ [.ref a, .ref b] [.ref a, .ref b] _ E0 sb.in1.room e1 bind rel hsp) fun r s' hq => ?_)
  cases r with
  | error e => exact hq.elim
  | ok fl =>
    cases fl with
    | ret w =>
      obtain ⟨z, H', J', rz, r, rfl, q⟩ := I.after hq
      cases rz
      exact ⟨r, rfl, .bl (!r), H', J', rfl, q⟩
    | next => exact False.elim hq
    | brk => exact False.elim hq
    | cont => exact False.elim hq
/-- run such a method, at A: what it answers comes back in the abstract -/
theorem run_own {X : Cx} {f : Addr} {n : Nat} {fd : FuncData} {ps : List Str} {sp : Sp} {pins : List (Addr × Obj)} {s : Shared} {σ : L2.St} {H : Hp} {xs : List V} {us : List Value} {R : VK} {A : Around} (F : FnOk X.prog X.w X.K X.mg X.base CX0 n f fd ps sp) (hb : Binds X.K fd ps []) (sb : Sub X n A)
    (I : Inv X pins σ H s) (rel : Vals xs us) (hsp : sp xs H R E0) {Q : Value → Shared → Prop} {E : Value → Shared → Prop} (go : ∀ z v H' s', Inv X pins σ H' s' → RelV z v → R z H' → Q v s') : wpAny (model X.prog X.w) A (call (.ref f) us) Q E s := by
  have e := I.env0
  have e1 : Env0 X.prog X.w X.K X.mg X.base A X.stack s H := ⟨by rw [sb.fr]; exact e.frames, e.mod, e.bs, e.bsz, e.funs, e.frf, e.hok, e.bare⟩
  have len := F.len _ _ _ _ hsp
  have bind := hb s us I.kIn (by rw [List.append_nil, ← rel.length]; exact len)
  rw [List.append_nil] at bind
  refine wpAny_call (codeAny_mono (F.run A X.stack s H ⟨us, []⟩ us xs _ E0 sb.room e1 bind rel hsp) fun r s' hq => ?_)
  cases r with
  | error e => exact hq.elim
  | ok fl =>
    cases fl with
    | ret w =>
      obtain ⟨z, H', J', rz, q⟩ := I.after hq
      exact go z w H' s' J' rz q
    | next => exact False.elim hq
    | brk => exact False.elim hq
    | cont => exact False.elim hq
/-- x in y, x not in y: y an instance of the class at C with its own __contains__ -/
def rInI (C : Addr) (sp : Sp) (neg : Bool) : R2 := fun x y H Q => ∃ a dx fs, y = .ref a ∧ H a = some (.ins C dx fs) ∧ sp [y, x] H (fun v H' => ∃ b, v = .bl b ∧ Q (.bl (if neg then !b else b)) H') E0
theorem op_inI {X : Cx} {C f : Addr} {n : Nat} {fd : FuncData} {ps : List Str} {sp : Sp} (F : FnOk X.prog X.w X.K X.mg X.base CX0 n f fd ps sp) (hs : PySem.W.findIn X.K (.ref C) "__contains__" = some (some (.ref f))) (hf : PySem.W.isFn X.K (.ref f) = true) (hb : Binds X.K fd ps []) (hr : Room n X.A) :
    OpR X (compareOp .In) (rInI C sp false) := by
  rintro pins s σ H x y v u Q I rx ry ⟨a, dx, fs, rfl, ha, hsp⟩
  obtain rfl : u = .ref a := ry
  obtain ⟨mA, J, _⟩ := ins_get I.hok ha
  obtain ⟨od, J, _⟩ := J.look
  obtain ⟨m, fr⟩ := I.fr
  refine PySem.W.in_K fr I.ok.mod.kin J hs hf (run_own F hb ⟨hr, rfl⟩ I (show Vals [V.ref a, x] [Value.ref a, v] from .cons rfl (.cons rx .nil)) hsp fun z w H' s' J' rz ⟨b, ez, q⟩ => ?_)
  subst ez
  cases rz
  exact wpAny_truthy_bool ⟨.bl b, H', J', rfl, q⟩
theorem op_notInI {X : Cx} {C f : Addr} {n : Nat} {fd : FuncData} {ps : List Str} {sp : Sp} (F : FnOk X.prog X.w X.K X.mg X.base CX0 n f fd ps sp) (hs : PySem.W.findIn X.K (.ref C) "__contains__" = some (some (.ref f))) (hf : PySem.W.isFn X.K (.ref f) = true) (hb : Binds X.K fd ps []) (hr : Room n X.A) :
    OpR X (compareOp .NotIn) (rInI C sp true) := by
  rintro pins s σ H x y v u Q I rx ry ⟨a, dx, fs, rfl, ha, hsp⟩
  obtain rfl : u = .ref a := ry
  obtain ⟨mA, J, _⟩ := ins_get I.hok ha
  obtain ⟨od, J, _⟩ := J.look
  obtain ⟨m, fr⟩ := I.fr
  refine PySem.W.notIn_K fr I.ok.mod.kin J hs hf (run_own F hb ⟨hr, rfl⟩ I (show Vals [V.ref a, x] [Value.ref a, v] from .cons rfl (.cons rx .nil)) hsp fun z w H' s' J' rz ⟨b, ez, q⟩ => ?_)
  subst ez
  cases rz
  exact wpAny_truthy_bool ⟨.bl (!b), H', J', rfl, q⟩
/-- len(x), x an instance of the class at C with its own __len__ -/
def rLenI (C : Addr) (sp : Sp) : List V → Hp → VK → Prop := fun xs H Q => ∃ a dx fs, xs = [.ref a] ∧ H a = some (.ins C dx fs) ∧ sp xs H (fun v H' => ∃ k : Int, v = .int k ∧ 0 ≤ k ∧ k < 1000000 ∧ Q (.int k) H') E0
theorem call_lenI {X : Cx} {C f : Addr} {n : Nat} {fd : FuncData} {ps : List Str} {sp : Sp} (F : FnOk X.prog X.w X.K X.mg X.base CX0 n f fd ps sp) (hs : PySem.W.findIn X.K (.ref C) "__len__" = some (some (.ref f))) (hf : PySem.W.isFn X.K (.ref f) = true) (hb : Binds X.K fd ps []) (hr : Room (n + 1) X.A) :
    CallR X (.builtin "len") (rLenI C sp) := by
  rintro pins s σ H xs us Q I rel ⟨a, dx, fs, rfl, ha, hsp⟩
  obtain ⟨u, rfl, ru⟩ := vals1 rel
  obtain rfl : u = .ref a := ru
  obtain ⟨mA, J, _⟩ := ins_get I.hok ha
  obtain ⟨od, J, _⟩ := J.look
  obtain ⟨m, fr⟩ := I.fr
  have sb : Sub X (n + 1) X.A := ⟨hr, rfl⟩
  refine PySem.W.len_K fr I.ok.mod.kin J hs hf (run_own F hb sb.in1 I rel hsp fun z w H' s' J' rz ⟨k, ez, k0, k1, q⟩ => ?_)
  subst ez
  obtain ⟨t, rfl⟩ := rz
  exact ⟨⟨k0, by omega⟩, ⟨.int k, H', J'.tok _, ⟨_, rfl⟩, q⟩⟩
end Lk
set_option Elab.async false
set_option linter.all false
set_option maxRecDepth 100000
set_option maxHeartbeats 4000000
/-! Part N: in a tuple of data; a list extended by a tuple. -/
namespace Lk
open PySem PySem.Spec PyProof.Rows L2
/-- x in y, x not in y: y a tuple of data of any depth -/
def rInDT (K : PySem.W.Frag) : R2 := fun x y H Q => ∃ d ds, Dp K H x d ∧ Dp K H y (.tuple ds) ∧ SeqAt.shaped d = true ∧ SeqAt.shaped (.tuple ds) = true ∧ Q (.bl (ds.any fun z => PyData.eqv z d)) H
def rNotInDT (K : PySem.W.Frag) : R2 := fun x y H Q => ∃ d ds, Dp K H x d ∧ Dp K H y (.tuple ds) ∧ SeqAt.shaped d = true ∧ SeqAt.shaped (.tuple ds) = true ∧ Q (.bl (!(ds.any fun z => PyData.eqv z d))) H
theorem op_inDT {X : Cx} (hu : X.A.units + 65 < cLine) : OpR X (compareOp .In) (rInDT X.K) := by
  intro pins s σ H x y v u Q I rx ry h
  obtain ⟨d, ds, hd, he, sd, se, q⟩ := h
  obtain ⟨as, r1⟩ := Dp.reads I d x v hd rx
  obtain ⟨bs, r2⟩ := Dp.reads I (.tuple ds) y u he ry
  exact SeqAt.in_tuple_reads r2 r1 (SeqAt.canLay_of_shaped se) (SeqAt.canLay_of_shaped sd) (room_in_shaped sd hu) ⟨.bl _, H, I, rfl, q⟩
theorem op_notInDT {X : Cx} (hu : X.A.units + 65 < cLine) : OpR X (compareOp .NotIn) (rNotInDT X.K) := by
  intro pins s σ H x y v u Q I rx ry h
  obtain ⟨d, ds, hd, he, sd, se, q⟩ := h
  obtain ⟨as, r1⟩ := Dp.reads I d x v hd rx
  obtain ⟨bs, r2⟩ := Dp.reads I (.tuple ds) y u he ry
  exact SeqAt.notIn_tuple_reads r2 r1 (SeqAt.canLay_of_shaped se) (SeqAt.canLay_of_shaped sd) (room_in_shaped sd hu) ⟨.bl _, H, I, rfl, q⟩
theorem room64 {k : Nat} {A : Around} (r : Room k A) : A.units + 64 < cLine := by have := r.un; omega
theorem room65 {k : Nat} {A : Around} (r : Room k A) : A.units + 65 < cLine := by have := r.un; omega
theorem extend_tup (l : Addr) (items : Array Value) (n : Nat) (b : Addr) (items2 : Array Value) (n2 : Nat) (dd : Option Addr) (sl : Array (Option Value)) (hs0 : ¬(!items.isEmpty && Builtin.List.listTooLong (items.size + items2.size)) = true) (hs1 : items.size ≤ sizeLine) (hs2 : items.size + items2.size ≤ sizeLine + 1) :
    Meets (Builtin.«list.extend» ⟨[.ref l, .ref b], []⟩) (fun _ R s => s.heap.get? l = some { cls := .type "list", dict := none, data := .seq items n, slots := #[] } ∧ s.heap.get? b = some { cls := .type "tuple", dict := dd, data := .seq items2 n2, slots := sl } ∧ R (.ok (.ret Value.none)) { s with heap := s.heap.update l (Obj.mapSeq fun x => x ++ items2), toks := s.toks }) :=
  .of_wp fun prog w A R s h => by
    obtain ⟨hp, g, d, tk, os⟩ := s; obtain ⟨hl, hb, h⟩ := h; have f1 := PySem.AutoSeq1.idx_int; have f2 := PySem.AutoSeq1.sub_tuple_tuple; have f3 := PySem.AutoSeq1.sub_list_list; have f4 := PySem.AutoSeq1.sub_tuple_list; have f5 := PySem.AutoSeq1.sub_list_tuple;
    have hz' : (items ++ items2).size ≤ sizeLine + 1 := by rw [Array.size_append]; exact hs2
    wp_walk using (wpAny_updateSeq hl rfl (hz := hs1) (_hz' := hz')), PySem.AutoSeq1.wpAny_loadPart' hl, PySem.AutoSeq1.wpAny_loadPart' hb; exact ⟨_, rfl, h⟩
/-- l.extend(t), t a tuple that was made here -/
def rExtendT : V → List V → Hp → VK → Prop := fun x vs H Q => ∃ l b xs zs, x = .ref l ∧ vs = [.ref b] ∧ H l = some (.lst xs) ∧ H b = some (.tup zs) ∧ xs.length + zs.length ≤ sizeLine ∧ Q .non (upd H l (.lst (xs ++ zs)))
theorem mt_extendT {X : Cx} : MtM X "list.extend" rExtendT := by
  intro pins s σ H x vs v us Q I rx rv h
  obtain ⟨l, b, xs, zs, rfl, rfl, hH, hB, hz, q⟩ := h
  cases rx
  obtain ⟨u, rfl, ru⟩ := rv.one
  cases ru
  obtain ⟨z, its, n, r, hl, e⟩ := I.lstM hH
  obtain ⟨_, its2, r2, ⟨cls, dd, data, sls⟩, e2, hc, m, hd⟩ := (show ObjOk X.prog X.w H s.heap b (.tup _) from I.hok b _ hB)
  simp only at hc hd
  subst hc hd
  have hsz : its.toArray.size + its2.toArray.size ≤ sizeLine := by rw [List.size_toArray, List.size_toArray, ← hl, ← r2.length]; exact hz
  have hlong : ¬ (!its.toArray.isEmpty && Builtin.List.listTooLong (its.toArray.size + its2.toArray.size)) = true := by
    rw [notLongL hsz, Bool.and_false]
    exact Bool.false_ne_true
  have hl2 := r2.length
  refine call_meets F.slot_list_extend ⟨_, e, rfl⟩ F.entry_list_extend (F.args_list_extend_2 _ _)
    (extend_tup l its.toArray n b its2.toArray m dd sls hlong (by rw [List.size_toArray]; omega) (by omega)) ⟨e, e2, ?_⟩
  refine ⟨.non, _, I.lset (its' := its ++ its2) hH e (by simp) (r.append r2) ?_, rfl, q⟩
  rw [List.length_append]
  omega
end Lk
set_option Elab.async false
set_option linter.all false
set_option maxRecDepth 100000
set_option maxHeartbeats 4000000
/-! Part G: comprehensions whose items are made anew, each told by a relation. -/
namespace Lk
open PySem PySem.Spec PyProof.Rows L2
/-- what may be written in its place: lists, tables of code objects -/
inductive Mv : HO → Prop
  | lst (xs : List V) : Mv (.lst xs)
  | tbl (ps : Array Value) : Mv (.tbl ps)
/-- all but lists and tables stand -/
def Keep (H H' : Hp) : Prop := ∀ b o, H b = some o → (∀ _ : Unit, ¬ Mv o) → H' b = some o
theorem Keep.of {H H' : Hp} (s : Same H H') : Keep H H' := fun b o e _ => s b o e
theorem Keep.trans {H H1 H2 : Hp} (x : Keep H H1) (y : Keep H1 H2) : Keep H H2 := fun b o e n => y b o (x b o e n) n
theorem Keep.upd {H : Hp} {D : Addr} {xs : List V} {o : HO} (h : H D = some (.lst xs)) : Keep H (upd H D o) := fun b u e n => by
  have : b ≠ D := fun z => by
    rw [z, h] at e
    cases e
    exact n () (.lst _)
  rw [upd_ne this]
  exact e
theorem tYes_if (σ2 : L2.St) (H2 : Hp) (A B : Hp → Prop) : (tYes σ2 H2 fun c H3 => if c = true then A H3 else B H3) = A H2 := by
  show (if true = true then A H2 else B H2) = A H2
  rw [if_pos rfl]
theorem Paired.add {α β : Type} {R : α → β → Prop} : ∀ {xs : List α} {ys : List β} {x : α} {y : β}, Paired R xs ys → R x y → Paired R (xs ++ [x]) (ys ++ [y])
  | _, _, _, _, .nil, h => .cons h .nil
  | _, _, _, _, .cons a t, h => .cons a (Paired.add t h)
theorem lc_relQ {α β : Type} {J : It} {G : Hp → Prop} {vs0 : List V} (w : Walk J vs0.length G (YAt vs0)) {g : TG} {te : TE} {vs : List Nat} {σ : L2.St} {H1 : Hp} {D : Addr} {Qd : Hp → Prop} (nD : H1 D = none)
    (xs : List α) (e : α → V) (f : α → β) (Rel : Hp → V → β → Prop) (mono : ∀ H H' v b, Keep H H' → Rel H v b → Rel H' v b) (hv : vs0 = xs.map e) (few : xs.length ≤ 100000) (hG : ∀ H, Same H1 H → G H)
    (hs : ∀ (i : Nat) b H (R : VK), xs[i]? = some b → Same H1 H → (∀ H4 y, Same H H4 → Rel H4 y (f b) → R y H4) → g (e b) (wipe σ vs) H fun σ2 H2 => wipe σ2 vs = wipe σ vs ∧ te σ2 H2 R)
    (hd : ∀ H ts, Same H1 H → H D = some (.lst ts) → Paired (Rel H) ts (xs.map f) → Qd H) :
    ∃ W : Nat → Nat → Hp → Prop, (∃ m, W 0 m (upd H1 D (.lst []))) ∧ ∀ i m H, W i m H → (J.stop i H ∧ Qd H) ∨ (J.go i H ∧ ∃ Nx : Hp → Prop, (∀ H', Nx H' → ∃ m', m' < m ∧ W (i + 1) m' H') ∧ ∀ x H', J.yld i H x H' → g x (wipe σ vs) H' fun σ2 H2 => wipe σ2 vs = wipe σ vs ∧ tYes σ2 H2 fun b H3 =>
        if b = true then te σ2 H3 fun y H4 => ∃ acc, H4 D = some (.lst acc) ∧ acc.length < sizeLine ∧ Nx (upd H4 D (.lst (acc ++ [y]))) else Nx H3) := by
  have hl : vs0.length = xs.length := by rw [hv, List.length_map]
  refine lc_it w (fun j H => ∃ ts, H D = some (.lst ts) ∧ Paired (Rel H) ts ((xs.take j).map f) ∧ ts.length = j ∧ Same H1 H) ⟨[], upd_same, .nil, rfl, same_new nD⟩ (fun i H _ p => hG H (by obtain ⟨_, _, _, _, s⟩ := p; exact s)) ?_ ?_
  · rintro i x H H' hi ⟨ts, eD, pr, tl, s⟩ ⟨rfl, hx⟩
    obtain ⟨b, hb⟩ : ∃ b, xs[i]? = some b := ⟨_, List.getElem?_eq_getElem (by omega)⟩
    have ex : x = e b := by
      rw [hv, List.getElem?_map, hb] at hx
      exact (Option.some.inj hx).symm
    subst ex
    have z := hs i b _ (fun y H4 => ∃ acc, H4 D = some (.lst acc) ∧ acc.length < sizeLine ∧ ∃ ts, upd H4 D (.lst (acc ++ [y])) D = some (.lst ts) ∧ Paired (Rel (upd H4 D (.lst (acc ++ [y])))) ts ((xs.take (i + 1)).map f) ∧ ts.length = i + 1 ∧ Same H1 (upd H4 D (.lst (acc ++ [y])))) hb s fun H4 y s4 ry => by
      refine ⟨ts, s4 _ _ eD, by rw [sizeLine_eq]; omega, ts ++ [y], upd_same, ?_, by rw [List.length_append, tl]; rfl, fun c o ec => ?_⟩
      · have kp : Keep H4 (upd H4 D (.lst (ts ++ [y]))) := .upd (s4 _ _ eD)
        rw [List.take_add_one, hb, Option.toList_some, List.map_append]
        exact Paired.add (Paired.mapP pr fun v c r => mono _ _ _ _ ((Keep.of s4).trans kp) r) (mono _ _ _ _ kp ry)
      · rw [upd_ne (ne_of_none ec nD)]
        exact s4 _ _ (s _ _ ec)
    exact z
  · rintro H ⟨ts, eD, pr, tl, s⟩
    rw [hl, List.take_length] at pr
    exact hd H ts s eD pr
theorem lc_rel {α β : Type} {J : It} {G : Hp → Prop} {vs0 : List V} (w : Walk J vs0.length G (YAt vs0)) {g : TG} {te : TE} {vs : List Nat} {σ : L2.St} {H1 : Hp} {Q : VK}
    (xs : List α) (e : α → V) (f : α → β) (Rel : Hp → V → β → Prop) (mono : ∀ H H' v b, Keep H H' → Rel H v b → Rel H' v b) (hv : vs0 = xs.map e) (few : xs.length ≤ 100000) (hG : ∀ H, Same H1 H → G H)
    (hs : ∀ (i : Nat) b H (R : VK), xs[i]? = some b → Same H1 H → (∀ H4 y, Same H H4 → Rel H4 y (f b) → R y H4) → g (e b) (wipe σ vs) H fun σ2 H2 => wipe σ2 vs = wipe σ vs ∧ te σ2 H2 R)
    (hd : ∀ D H ts, H1 D = none → Same H1 H → H D = some (.lst ts) → Paired (Rel H) ts (xs.map f) → Q (.ref D) H) : LcR J g tYes te vs σ H1 Q := fun D nD =>
  lc_relQ w nD xs e f Rel mono hv few hG hs fun H ts s eD pr => hd D H ts nD s eD pr
end Lk
namespace Lk
open PySem PySem.Spec PyProof.Rows L2
/-- a walk whose turns are told of the heap alone: the clauses of a comprehension, outer or inner -/
theorem in_it {J : It} {n : Nat} {G : Hp → Prop} {Y : Nat → Hp → V → Hp → Prop} (w : Walk J n G Y) {C : (Hp → Prop) → V → Hp → Prop} {H0 : Hp} {E : Hp → Prop} (Pv : Nat → Hp → Prop) (h0 : Pv 0 H0) (hG : ∀ i H, i ≤ n → Pv i H → G H)
    (hs : ∀ i x H H', i < n → Pv i H → Y i H x H' → C (Pv (i + 1)) x H') (hd : ∀ H, Pv n H → E H) :
    ∃ W : Nat → Nat → Hp → Prop, (∃ m, W 0 m H0) ∧ ∀ j k H, W j k H → (J.stop j H ∧ E H) ∨ (J.go j H ∧ ∃ N : Hp → Prop, (∀ H', N H' → ∃ k', k' < k ∧ W (j + 1) k' H') ∧ ∀ x H', J.yld j H x H' → C N x H') := by
  refine ⟨fun i m H => m = n - i ∧ i ≤ n ∧ Pv i H, ⟨n, by simp, Nat.zero_le _, h0⟩, ?_⟩
  rintro i m H ⟨rfl, hi, p⟩
  have q := hG i H hi p
  by_cases lt : i < n
  · exact .inr ⟨w.goes i H lt q, Pv (i + 1), fun H' p' => ⟨n - (i + 1), by omega, rfl, lt, p'⟩, fun x H' y => hs i x H H' lt p (w.yields i H x H' lt q y)⟩
  · obtain rfl : i = n := by omega
    exact .inl ⟨w.stops H q, hd H p⟩
end Lk
namespace Lk
open PySem PySem.Spec PyProof.Rows L2
def KeepB (D : Addr) (H H' : Hp) : Prop := ∀ b o, b ≠ D → H b = some o → H' b = some o
/-- as lc_rel, for items that may be lists, but not the new list itself; Qd by the heap alone -/
theorem lc_relD {α β : Type} {J : It} {G : Hp → Prop} {vs0 : List V} (w : Walk J vs0.length G (YAt vs0)) {g : TG} {te : TE} {vs : List Nat} {σ : L2.St} {H1 : Hp} {D : Addr} {Qd : Hp → Prop}
    (xs : List α) (e : α → V) (f : α → β) (Rel : Hp → V → β → Prop) (nD : H1 D = none) (mono : ∀ H H' v b, KeepB D H H' → Rel H v b → Rel H' v b) (hv : vs0 = xs.map e) (few : xs.length ≤ 100000) (hG : ∀ H, Same H1 H → G H)
    (hs : ∀ (i : Nat) b H (R : VK), xs[i]? = some b → Same H1 H → H D ≠ none → (∀ H4 y, Same H H4 → Rel H4 y (f b) → R y H4) → g (e b) (wipe σ vs) H fun σ2 H2 => wipe σ2 vs = wipe σ vs ∧ te σ2 H2 R)
    (hd : ∀ H ts, Same H1 H → H D = some (.lst ts) → Paired (Rel H) ts (xs.map f) → Qd H) :
    ∃ W : Nat → Nat → Hp → Prop, (∃ m, W 0 m (upd H1 D (.lst []))) ∧ ∀ i m H, W i m H → (J.stop i H ∧ Qd H) ∨ (J.go i H ∧ ∃ Nx : Hp → Prop, (∀ H', Nx H' → ∃ m', m' < m ∧ W (i + 1) m' H') ∧ ∀ x H', J.yld i H x H' → g x (wipe σ vs) H' fun σ2 H2 => wipe σ2 vs = wipe σ vs ∧ tYes σ2 H2 fun b H3 =>
        if b = true then te σ2 H3 fun y H4 => ∃ acc, H4 D = some (.lst acc) ∧ acc.length < sizeLine ∧ Nx (upd H4 D (.lst (acc ++ [y]))) else Nx H3) := by
  have hl : vs0.length = xs.length := by rw [hv, List.length_map]
  refine lc_it w (fun j H => ∃ ts, H D = some (.lst ts) ∧ Paired (Rel H) ts ((xs.take j).map f) ∧ ts.length = j ∧ Same H1 H) ⟨[], upd_same, .nil, rfl, same_new nD⟩ (fun i H _ p => hG H (by obtain ⟨_, _, _, _, s⟩ := p; exact s)) ?_ ?_
  · rintro i x H H' hi ⟨ts, eD, pr, tl, s⟩ ⟨rfl, hx⟩
    obtain ⟨b, hb⟩ : ∃ b, xs[i]? = some b := ⟨_, List.getElem?_eq_getElem (by omega)⟩
    have ex : x = e b := by
      rw [hv, List.getElem?_map, hb] at hx
      exact (Option.some.inj hx).symm
    subst ex
    have z := hs i b _ (fun y H4 => ∃ acc, H4 D = some (.lst acc) ∧ acc.length < sizeLine ∧ ∃ ts, upd H4 D (.lst (acc ++ [y])) D = some (.lst ts) ∧ Paired (Rel (upd H4 D (.lst (acc ++ [y])))) ts ((xs.take (i + 1)).map f) ∧ ts.length = i + 1 ∧ Same H1 (upd H4 D (.lst (acc ++ [y])))) hb s (by rw [eD]; simp) fun H4 y s4 ry => by
      refine ⟨ts, s4 _ _ eD, by rw [sizeLine_eq]; omega, ts ++ [y], upd_same, ?_, by rw [List.length_append, tl]; rfl, fun c o ec => ?_⟩
      · have kp : KeepB D H4 (upd H4 D (.lst (ts ++ [y]))) := fun c o nc ec => by rw [upd_ne nc]; exact ec
        have k4 : KeepB D H' H4 := fun c o _ ec => s4 _ _ ec
        rw [List.take_add_one, hb, Option.toList_some, List.map_append]
        exact Paired.add (Paired.mapP pr fun v c r => mono _ _ _ _ kp (mono _ _ _ _ k4 r)) (mono _ _ _ _ kp ry)
      · rw [upd_ne (ne_of_none ec nD)]
        exact s4 _ _ (s _ _ ec)
    exact z
  · rintro H ⟨ts, eD, pr, tl, s⟩
    rw [hl, List.take_length] at pr
    exact hd H ts s eD pr
end Lk
set_option Elab.async false
set_option linter.all false
set_option maxRecDepth 100000
set_option maxHeartbeats 4000000
/-! Part R: data that is small enough to be compared and shown. -/
namespace Lk
open PySem PySem.Spec PyProof.Rows L2
/-- weight at most n, depth at most k, texts and ints that can be shown -/
structure Nice (n k : Nat) (d : PyData) : Prop where
  lay : d.canLay0 = true
  dep : d.depth ≤ k
  wt : d.weight ≤ n
  sh : d.intsShort 13 = true
  sw : d.showable = true
theorem Nice.mono {n k m j : Nat} {d : PyData} (h : Nice n k d) (hn : n ≤ m) (hk : k ≤ j) : Nice m j d := ⟨h.lay, Nat.le_trans h.dep hk, Nat.le_trans h.wt hn, h.sh, h.sw⟩
theorem Nice.str {x : Str} {n : Nat} (h : PyData.strOk x = true) (hl : x.length ≤ n) : Nice n 0 (.str x) :=
  ⟨by simp [PyData.canLay0, h], by simp [PyData.depth], by simpa [PyData.weight, Str.length] using hl, by simp [PyData.intsShort], by simp [PyData.showable]⟩
theorem nice_all {c k : Nat} : ∀ {ds : List PyData}, (∀ d ∈ ds, Nice c k d) → PyData.canLayAll0 ds = true ∧ PyData.depthAll ds ≤ k ∧ PyData.weightAll ds ≤ ds.length * (c + 1) ∧ PyData.intsShortAll 13 ds = true ∧ PyData.showableAll ds = true
  | [], _ => ⟨by simp [PyData.canLayAll0], by simp [PyData.depthAll], by simp [PyData.weightAll], by simp [PyData.intsShortAll], by simp [PyData.showableAll]⟩
  | d :: ds, h => by
    obtain ⟨a1, a2, a3, a4, a5⟩ := nice_all fun e he => h e (List.mem_cons_of_mem _ he)
    have hd := h d List.mem_cons_self
    refine ⟨by simp [PyData.canLayAll0, hd.lay, a1], ?_, ?_, by simp [PyData.intsShortAll, hd.sh, a4], by simp [PyData.showableAll, hd.sw, a5]⟩
    · have := hd.dep
      simp only [PyData.depthAll]
      omega
    · have := hd.wt
      have e : (d :: ds).length * (c + 1) = ds.length * (c + 1) + (c + 1) := by rw [List.length_cons, Nat.succ_mul]
      simp only [PyData.weightAll]
      omega
theorem Nice.tup {c k m : Nat} {ds : List PyData} (h : ∀ d ∈ ds, Nice c k d) (hl : ds.length ≤ m) : Nice (m * (c + 1)) (k + 1) (.tuple ds) := by
  obtain ⟨a1, a2, a3, a4, a5⟩ := nice_all h
  refine ⟨by simp [PyData.canLay0, a1], ?_, ?_, by simp [PyData.intsShort, a4], by simp [PyData.showable, a5]⟩
  · simp only [PyData.depth]
    omega
  · simp only [PyData.weight]
    exact Nat.le_trans a3 (Nat.mul_le_mul_right _ hl)
theorem Nice.lst {c k m : Nat} {ds : List PyData} (h : ∀ d ∈ ds, Nice c k d) (hl : ds.length ≤ m) : Nice (m * (c + 1)) (k + 1) (.list ds) := by
  obtain ⟨a1, a2, a3, a4, a5⟩ := nice_all h
  refine ⟨by simp [PyData.canLay0, a1], ?_, ?_, by simp [PyData.intsShort, a4], by simp [PyData.showable, a5]⟩
  · simp only [PyData.depth]
    omega
  · simp only [PyData.weight]
    exact Nat.le_trans a3 (Nat.mul_le_mul_right _ hl)
theorem Nice.shaped {n k : Nat} {d : PyData} (h : Nice n k d) (hk : k ≤ 64) : SeqAt.shaped d = true := by
  show (d.canLay0 && decide (d.depth ≤ 64)) = true
  have := h.dep
  rw [Bool.and_eq_true]
  exact ⟨h.lay, decide_eq_true (by omega)⟩
theorem Nice.fits {n k : Nat} {d : PyData} (h : Nice n k d) (hn : n ≤ 1048576) (hk : k ≤ 64) : d.shown.length ≤ sizeLine := by
  have l0 : PyData.layable0 d = true := by
    have h1 := h.dep
    have h2 := h.wt
    show (d.canLay0 && decide (d.depth ≤ 64) && decide (d.weight ≤ 2 ^ 20)) = true
    rw [Bool.and_eq_true, Bool.and_eq_true]
    exact ⟨⟨h.lay, decide_eq_true (by omega)⟩, decide_eq_true (by omega)⟩
  have := shown_le13 l0 h.sh
  rw [sizeLine_eq]
  omega
theorem Nice.eqv {n k : Nat} {d : PyData} (h : Nice n k d) : PyData.eqv d d = true := SeqAt.eqv_refl _ h.lay
/-- small ints -/
theorem nice_ints : ∀ i : Nat, i < 100 → ((PyData.int (i : Int)).intsShort 13 && ((PyData.int (i : Int)).showable && decide ((PyData.int (i : Int)).weight ≤ 8))) = true := by decide +kernel
theorem Nice.nat {i : Nat} (h : i < 100) : Nice 8 0 (.int (i : Int)) := by
  have := nice_ints i h
  rw [Bool.and_eq_true, Bool.and_eq_true] at this
  exact ⟨by simp [PyData.canLay0], by simp [PyData.depth], of_decide_eq_true this.2.2, this.1, this.2.1⟩
/-- the texts of a tuple -/
def strsD (zs : List Str) : List PyData := zs.map PyData.str
theorem dp_strs {K : PySem.W.Frag} {H : Hp} : ∀ zs : List Str, DpAll K H (zs.map V.str) (strsD zs)
  | [] => .nil
  | z :: zs => .cons (.str z) (dp_strs zs)
theorem dw_strs {H : Hp} : ∀ zs : List Str, DWs H (zs.map V.str) (strsD zs)
  | [] => .nil
  | z :: zs => .cons (.str z) (dw_strs zs)
theorem nice_strs {zs : List Str} {n m : Nat} (h : ∀ z ∈ zs, PyData.strOk z = true ∧ z.length ≤ n) (hl : zs.length ≤ m) : Nice (m * (n + 1)) 1 (.tuple (strsD zs)) := by
  refine Nice.tup (fun d hd => ?_) (by unfold strsD; rw [List.length_map]; exact hl)
  obtain ⟨z, hz, rfl⟩ := List.mem_map.mp hd
  exact .str (h z hz).1 (h z hz).2
/-- all but lists stand, where the draws' list alone was written -/
theorem Keep.ext {a : Addr} {N : Nat} {H H' : Hp} (hp : PotAt a N H) (x : ExtP a H H') : Keep H H' := fun b o e n => x b o (fun z => by
  obtain ⟨_, _, _, h, _⟩ := hp
  rw [z, h] at e
  cases e
  exact n () (.lst _)) e
theorem TupX.keep {H H' : Hp} {a : Addr} {xs : List V} (h : TupX H a xs) (k : Keep H H') : TupX H' a xs := by
  obtain ⟨ob, e, r⟩ := h
  exact ⟨ob, k _ _ e (fun xs z => by cases z), r⟩
theorem SqT.keep {K : PySem.W.Frag} {H H' : Hp} {a : Addr} {xs : List V} (h : SqT K H a xs) (k : Keep H H') : SqT K H' a xs := by
  rcases h with (h | ⟨o, h⟩) | h
  · exact .inl (.inl (k _ _ h fun xs z => by cases z))
  · exact .inl (.inr ⟨o, k _ _ h fun xs z => by cases z⟩)
  · exact .inr h
end Lk
set_option Elab.async false
set_option linter.all false
set_option maxRecDepth 100000
set_option maxHeartbeats 4000000
set_option pp.maxSteps 1200
set_option pp.deepTerms false
namespace K6
open PySem PySem.Spec PyProof.Rows L2 Lk
/-! ### what a shelf is drawn as -/
abbrev KP := Str × List (List Str)
structure Lore where
  parts : List Str
  kps : List KP
structure LoreOk (L : Lore) : Prop where
  p0 : 0 < L.parts.length
  p4 : L.parts.length ≤ 4
  pn : L.parts.Nodup
  pp : ∀ p ∈ L.parts, p ∈ partPool
  k2 : 2 ≤ L.kps.length
  k6 : L.kps.length ≤ 6
  kn : (L.kps.map (·.1)).Nodup
  kp : ∀ k ∈ L.kps, k.1 ∈ namePool
  q : ∀ k ∈ L.kps, 1 ≤ k.2.length ∧ k.2.length ≤ 2 ∧ ∀ p ∈ k.2, PieceOk L.parts p
/-- tuples of texts, each at its own address -/
def Pieces (H : Hp) : List V → List (List Str) → Prop := Paired fun v p => ∃ t, v = V.ref t ∧ H t = some (.tup (p.map V.str))
def RowR (H : Hp) (v : V) (q : List (List Str)) : Prop := ∃ t ts, v = V.ref t ∧ H t = some (.tup ts) ∧ Pieces H ts q
def Lore3 (H : Hp) (lo : Addr) (L : Lore) : Prop := ∃ pa nm ps ts, H lo = some (.dK [(.inr "parts", .ref pa), (.inr "names", .ref nm), (.inr "pieces", .ref ps)]) ∧ H pa = some (.tup (L.parts.map V.str)) ∧ TupX H nm ((L.kps.map (·.1)).map V.str) ∧ H ps = some (.tup ts) ∧ Paired (fun v (k : KP) => RowR H v k.2) ts L.kps
/-- a dict that begins so -/
def D3 (H : Hp) (lo pa nm ps : Addr) : Prop := ∃ rest, H lo = some (.dK ((.inr "parts", .ref pa) :: (.inr "names", .ref nm) :: (.inr "pieces", .ref ps) :: rest))
theorem D3.keep {H H' : Hp} {lo pa nm ps : Addr} (h : D3 H lo pa nm ps) (k : Keep H H') : D3 H' lo pa nm ps := let ⟨r, e⟩ := h; ⟨r, k _ _ e fun _ z => by cases z⟩
theorem D3.same {H H' : Hp} {lo pa nm ps : Addr} (h : D3 H lo pa nm ps) (s : Same H H') : D3 H' lo pa nm ps := h.keep (.of s)
def LoreAt (H : Hp) (lo : Addr) (L : Lore) : Prop := ∃ pa nm ps ts, D3 H lo pa nm ps ∧ H pa = some (.tup (L.parts.map V.str)) ∧ TupX H nm ((L.kps.map (·.1)).map V.str) ∧ H ps = some (.tup ts) ∧ Paired (fun v (k : KP) => RowR H v k.2) ts L.kps
theorem Lore3.at_ {H : Hp} {lo : Addr} {L : Lore} (h : Lore3 H lo L) : LoreAt H lo L := let ⟨pa, nm, ps, ts, e, r⟩ := h; ⟨pa, nm, ps, ts, ⟨[], e⟩, r⟩
/-- what is in H and no list stands in H', too -/
def Tups (H H' : Hp) : Prop := ∀ b xs, H b = some (.tup xs) → H' b = some (.tup xs)
theorem Tups.of {H H' : Hp} (s : Same H H') : Tups H H' := fun b xs e => s b _ e
theorem Tups.trans {H H1 H2 : Hp} (x : Tups H H1) (y : Tups H1 H2) : Tups H H2 := fun b xs e => y b xs (x b xs e)
theorem Tups.ext {a : Addr} {N : Nat} {H H' : Hp} (hp : PotAt a N H) (x : ExtP a H H') : Tups H H' := fun b xs e => x b _ (fun z => by
  obtain ⟨_, _, _, h, _⟩ := hp
  rw [z, h] at e
  cases e) e
theorem Tups.upd {H : Hp} {b : Addr} {xs : List V} {o : HO} (h : H b = some (.lst xs)) : Tups H (upd H b o) := fun c ys e => by
  rw [upd_ne (fun z => by rw [z, h] at e; cases e)]
  exact e
theorem Pieces.tups {H H' : Hp} {vs : List V} {ps : List (List Str)} (h : Pieces H vs ps) (k : Tups H H') : Pieces H' vs ps := Paired.mapP h fun _ _ ⟨t, e, h⟩ => ⟨t, e, k _ _ h⟩
theorem paired_append {α β : Type} {R : α → β → Prop} : ∀ {xs : List α} {ys : List β} {xs' : List α} {ys' : List β}, Paired R xs ys → Paired R xs' ys' → Paired R (xs ++ xs') (ys ++ ys')
  | _, _, _, _, .nil, h => h
  | _, _, _, _, .cons a t, h => .cons a (paired_append t h)
theorem paired_len {α β : Type} {R : α → β → Prop} : ∀ {xs : List α} {ys : List β}, Paired R xs ys → xs.length = ys.length
  | _, _, .nil => rfl
  | _, _, .cons _ t => by rw [List.length_cons, List.length_cons, paired_len t]
theorem Pieces.keep {H H' : Hp} {vs : List V} {ps : List (List Str)} (h : Pieces H vs ps) (k : Keep H H') : Pieces H' vs ps := Paired.mapP h fun _ _ ⟨t, e, h⟩ => ⟨t, e, k _ _ h fun _ z => by cases z⟩
theorem RowR.keep {H H' : Hp} {v : V} {q : List (List Str)} (h : RowR H v q) (k : Keep H H') : RowR H' v q := by
  obtain ⟨t, ts, e, h1, h2⟩ := h
  exact ⟨t, ts, e, k _ _ h1 (fun _ z => by cases z), h2.keep k⟩
theorem LoreAt.keep {lo : Addr} {H H' : Hp} {L : Lore} (h : LoreAt H lo L) (k : Keep H H') : LoreAt H' lo L := by
  obtain ⟨pa, nm, ps, ts, h1, h2, h3, h4, h5⟩ := h
  exact ⟨pa, nm, ps, ts, h1.keep k, k _ _ h2 (fun _ z => by cases z), h3.keep k, k _ _ h4 (fun _ z => by cases z), Paired.mapP h5 fun _ _ r => r.keep k⟩
theorem LoreAt.same {lo : Addr} {H H' : Hp} {L : Lore} (h : LoreAt H lo L) (s : Same H H') : LoreAt H' lo L := h.keep (.of s)
theorem LoreAt.ext {a lo : Addr} {N : Nat} {H H' : Hp} {L : Lore} (h : LoreAt H lo L) (hp : PotAt a N H) (x : ExtP a H H') : LoreAt H' lo L := h.keep (Keep.ext hp x)
theorem rows_zip {H : Hp} : ∀ {rows : List V} {qs : List (List (List Str))} {zs : List Str}, Paired (RowR H) rows qs → zs.length = qs.length → Paired (fun v (k : KP) => RowR H v k.2) rows (zs.zip qs)
  | _, _, [], .nil, _ => .nil
  | _, _, _ :: _, .nil, h => by cases h
  | _, _, [], .cons _ _, h => by cases h
  | _, _, _ :: _, .cons r t, h => .cons r (rows_zip t (by simpa using h))
theorem dget3 {H : Hp} {lo pa nm ps : Addr} (e : D3 H lo pa nm ps) :
    DGet H lo (.str "parts") (some (.ref pa)) ∧ DGet H lo (.str "names") (some (.ref nm)) ∧ DGet H lo (.str "pieces") (some (.ref ps)) := by
  obtain ⟨rest, e⟩ := e
  exact ⟨.inl ⟨_, .inr "parts", .inl e, rfl, rfl⟩, .inl ⟨_, .inr "names", .inl e, rfl, rfl⟩, .inl ⟨_, .inr "pieces", .inl e, rfl, rfl⟩⟩
section
variable {P : Program} {w : World} {K : PySem.W.Frag} {mg : Str → Option Value} {base : Heap} {f : Addr} {fd : FuncData}
/-! ### _law_shelf -/
def spShelf : Sp := fun vs H Q _ => ∃ (a : Addr) (fw up mp : Int) (N : Nat), vs = [.ref a, .int fw, .int up, .int mp] ∧ PotAt a N H ∧ N ≤ 10000 ∧ 2 ≤ fw ∧ fw ≤ up ∧ up ≤ 6 ∧ 1 ≤ mp ∧ mp ≤ 4 ∧
  ∀ (L : Lore) (lo : Addr) (H' : Hp), LoreOk L → ExtP a H H' → PotAt a (N + 200) H' → Lore3 H' lo L → Q (.ref lo) H'
end
end K6
set_option Elab.async false
set_option linter.all false
set_option maxRecDepth 100000
set_option maxHeartbeats 4000000
set_option pp.maxSteps 1200
set_option pp.deepTerms false
namespace K6
open PySem PySem.Spec PyProof.Rows L2 Lk RZ
/-! ### the text, as it is meant -/
def pieceW (p : List Str) : Str := Txt.join "+" p
def lineP (L : Lore) : Str := Txt.join " " ("parts" :: L.parts)
def wordsK (k : KP) : List Str := "keeper" :: k.1 :: k.2.map pieceW
def lineK (k : KP) : Str := Txt.join " " (wordsK k)
def rowsL (L : Lore) : List Str := lineP L :: L.kps.map lineK
def textL (L : Lore) : Str := Txt.join "\n" (rowsL L)
theorem join_le {s : Str} {n c : Nat} {xs : List Str} (hn : xs.length ≤ n) (hc : ∀ x ∈ xs, x.length ≤ c) : (xs.map (·.length)).sum + xs.length * s.length ≤ n * c + n * s.length ∧ (Txt.join s xs).length ≤ n * c + n * s.length := by
  have h1 : (xs.map (·.length)).sum ≤ xs.length * c := by
    clear hn
    induction xs with
    | nil => simp
    | cons x xs ih =>
      have := ih fun y hy => hc y (List.mem_cons_of_mem _ hy)
      have := hc x List.mem_cons_self
      simp only [List.map_cons, List.sum_cons, List.length_cons, Nat.succ_mul]
      omega
  have h2 := Nat.mul_le_mul_right c hn
  have h3 := Nat.mul_le_mul_right s.length hn
  have h4 := StrLaws.join_length_le s xs
  rw [show Txt.join s xs = Str.join s xs from StrLaws.glued_eq_join s xs]
  constructor <;> omega
theorem part_len : ∀ p ∈ partPool, p.length ≤ 6 := by decide +kernel
theorem name_len : ∀ p ∈ namePool, p.length ≤ 8 := by decide +kernel
theorem PieceOk.sub {ps p : List Str} (h : PieceOk ps p) : ∀ x ∈ p, x ∈ ps := fun x hx => by
  rw [h.2] at hx
  exact (List.mem_filter.mp hx).1
theorem PieceOk.len {ps p : List Str} (h : PieceOk ps p) : p.length ≤ ps.length := by
  have := List.length_filter_le (fun x => decide (x ∈ p)) ps
  rw [← h.2] at this
  exact this
theorem parts_len {L : Lore} (ok : LoreOk L) : ∀ x ∈ ("parts" : Str) :: L.parts, x.length ≤ 6 := fun x hx => by
  rcases List.mem_cons.mp hx with rfl | hx
  · decide
  · exact part_len x (ok.pp x hx)
theorem piece_len {L : Lore} (ok : LoreOk L) {k : KP} (km : k ∈ L.kps) : ∀ p ∈ k.2, p.length ≤ 4 ∧ ∀ x ∈ p, x.length ≤ 6 := fun p hp =>
  ⟨Nat.le_trans ((ok.q k km).2.2 p hp).len ok.p4, fun x hx => part_len x (ok.pp x (((ok.q k km).2.2 p hp).sub x hx))⟩
theorem words_len {L : Lore} (ok : LoreOk L) {k : KP} (km : k ∈ L.kps) : ∀ x ∈ wordsK k, x.length ≤ 28 := fun x hx => by
  rcases List.mem_cons.mp hx with rfl | hx
  · decide
  rcases List.mem_cons.mp hx with rfl | hx
  · exact Nat.le_trans (name_len _ (ok.kp k km)) (by decide)
  obtain ⟨p, hp, rfl⟩ := List.mem_map.mp hx
  exact (join_le (s := ("+" : Str)) (piece_len ok km p hp).1 (piece_len ok km p hp).2).2
theorem rows_len {L : Lore} (ok : LoreOk L) : ∀ x ∈ rowsL L, x.length ≤ 120 := fun x hx => by
  rcases List.mem_cons.mp hx with rfl | hx
  · exact Nat.le_trans (join_le (s := (" " : Str)) (n := 5) (by have := ok.p4; show L.parts.length + 1 ≤ 5; omega) (parts_len ok)).2 (by decide)
  · obtain ⟨k, hk, rfl⟩ := List.mem_map.mp hx
    exact Nat.le_trans (join_le (s := (" " : Str)) (n := 4) (by have := (ok.q k hk).2.1; show (k.2.map pieceW).length + 1 + 1 ≤ 4; rw [List.length_map]; omega) (words_len ok hk)).2 (by decide)
theorem paired_zip {α β : Type} {R : α → β → Prop} : ∀ {xs : List α} {ys : List β}, Paired R xs ys → ∃ zs : List (α × β), zs.map (·.1) = xs ∧ zs.map (·.2) = ys ∧ ∀ z ∈ zs, R z.1 z.2
  | _, _, .nil => ⟨[], rfl, rfl, fun _ h => by simp at h⟩
  | _, _, .cons (a := a) (b := b) h t => by
    obtain ⟨zs, e1, e2, e3⟩ := paired_zip t
    refine ⟨(a, b) :: zs, by rw [List.map_cons, e1], by rw [List.map_cons, e2], fun z hz => ?_⟩
    rcases List.mem_cons.mp hz with rfl | hz
    · exact h
    · exact e3 z hz
section
variable {P : Program} {w : World} {K : PySem.W.Frag} {mg : Str → Option Value} {base : Heap} {f : Addr} {fd : FuncData}
def rJoin (K : PySem.W.Frag) : V → List V → Hp → VK → Prop := fun x xs H Q => ∃ a p, ∃ ys : List Str, x = .str a ∧ xs = [.ref p] ∧ (SqL K H p (ys.map V.str) ∨ SqT K H p (ys.map V.str)) ∧ (ys.map (·.length)).sum + ys.length * a.length ≤ 16777216 ∧ Q (.str (Txt.join a ys)) H
def rListOf (K : PySem.W.Frag) : List V → Hp → VK → Prop := fun xs H Q => ∃ p ys, xs = [.ref p] ∧ (SqL K H p ys ∨ SqT K H p ys) ∧ ∀ l, H l = none → Q (.ref l) (upd H l (.lst ys))
/-! ### _law_shelf_text -/
def spText : Sp := fun vs H Q _ => ∃ (lo : Addr) (L : Lore), vs = [.ref lo] ∧ LoreAt H lo L ∧ LoreOk L ∧ ∀ H', Same H H' → Q (.str (textL L)) H'
end
end K6
set_option Elab.async false
set_option linter.all false
set_option maxRecDepth 100000
set_option maxHeartbeats 4000000
/-! Part S: set(x) of unlike texts, its length. -/
namespace LkS
open PySem PySem.Spec PyProof.Rows
section
variable {p : Program} {w : World} {A : Around} {R : Result → Shared → Prop} {I : Addr} {fp wr : List Addr} {G : Array GenState → Array GenState → Prop} {n : Nat} {P : Nat → Value → Prop} {St : Nat → Shared → Prop}
theorem any_take_not {zs : List Str} (nd : zs.Nodup) {i : Nat} (hi : i < zs.length) : (zs.take i).any (· == zs.getD i Str.empty) = false := by
  have e : zs.getD i Str.empty = zs[i] := by simp [List.getD_eq_getElem?_getD, hi]
  rw [e, List.any_eq_false]
  intro z hz q
  have q2 : z = zs[i] := by simpa using q
  obtain ⟨j, hj, ej⟩ := List.mem_iff_getElem.mp hz
  rw [List.getElem_take] at ej
  have hj2 : j < i := by rw [List.length_take] at hj; omega
  exact (List.pairwise_iff_getElem.mp nd) j i (by omega) hi hj2 (ej.trans q2)
theorem strs_put (W : WalksS p w A.in1 I fp wr G n P St) (S : Addr) (out : S ∉ fp) (zs : List Str) (sz : zs.length = n) (nd : zs.Nodup) (few : n + 1 < scanBound) (val : ∀ i v, P i v → ∃ t, v = .str (zs.getD i Str.empty) t) :
    ∀ (d i : Nat) (s : Shared), n - i = d → i ≤ n → St i s → s.heap.SetOf (strKind p w) S (fun y => (zs.take i).any (· == y)) i →
      (∀ s2, Moved (S :: wr) G s s2 → s2.heap.SetOf (strKind p w) S (fun y => zs.any (· == y)) n → R (.ok (.ret .none)) s2) → codeAny (model p w) A (.builtin "set.update.loop" ⟨[.ref S, .ref I], []⟩) R s := by
  have out2 : S ∉ wr := fun q => out (W.sub _ q)
  have wide : ∀ b ∈ wr, b ∈ S :: wr := fun b q => List.mem_cons_of_mem _ q
  intro d
  induction d with
  | zero =>
    intro i s ed hi st has fin
    obtain rfl : i = n := by omega
    refine codeAny_builtin F.entry_set_update_loop ?_; rw [Around.under_plainId F.plain_set_update_loop _]
    show wpAny _ A.in1 (pyNext (.ref I) >>= _) _ _ s; refine wpAny_bind (W.done s _ _ st fun s2 mv => ?_)
    show wpAny _ A.in1 (ret Value.none) _ _ s2
    have e : zs.take i = zs := List.take_of_length_le (by omega)
    rw [e] at has
    obtain ⟨o, es, ep, t, ho, more⟩ := has
    exact wpAny_pure (fin s2 (mv.mono wide) ⟨o, es, ep, t, mv.heap S _ out2 ho, more⟩)
  | succ d ih =>
    intro i s ed hi st has fin
    have lt : i < n := by omega
    refine codeAny_builtin F.entry_set_update_loop ?_; rw [Around.under_plainId F.plain_set_update_loop _]
    show wpAny _ A.in1 (pyNext (.ref I) >>= _) _ _ s; refine wpAny_bind (W.item i s _ _ lt st fun v s2 pv st2 mv => ?_)
    obtain ⟨t, rfl⟩ := val i v pv
    have has2 : s2.heap.SetOf (strKind p w) S (fun y => (zs.take i).any (· == y)) i := by
      obtain ⟨o, es, ep, tb, ho, more⟩ := has
      exact ⟨o, es, ep, tb, mv.heap S _ out2 ho, more⟩
    show wpAny _ A.in1 (holding [Value.str (zs.getD i Str.empty) t] (setAdd S (.str (zs.getD i Str.empty) t)) >>= _) _ _ s2
    refine wpAny_bind (wpAny_holding ?_); unfold setAdd; refine wpAny_holding (wpAny_bind ((strKind p w).pyHash (k := zs.getD i Str.empty) (strKind_is _ _ _ _) ?_))
    refine wpAny_setAddHashed_of (knd := strKind p w) (s := { s2 with toks := s2.toks + 1 }) (strKind_is _ _ _ _) rfl has2 (by omega) fun g same has3 => ?_
    have has4 : g.SetOf (strKind p w) S (fun y => (zs.take (i + 1)).any (· == y)) (i + 1) := by
      have no := any_take_not nd (i := i) (by omega)
      have lt2 : i < zs.length := by omega
      refine SetOf_congr has3 (fun y => ?_) (by rw [no]; rfl)
      rw [List.take_add_one, List.any_append, List.getD_eq_getElem?_getD, List.getElem?_eq_getElem lt2]
      simp only [Option.getD_some, Option.toList_some, List.any_cons, List.any_nil, Bool.or_false]
      congr 1
      by_cases q : y = zs[i]
      · simp [q]
      · have q2 : ¬ zs[i] = y := fun z => q z.symm
        simp [q, q2]
    refine wpAny_pure ⟨plainId_quiet F.plain_set_update_loop _, ih (i + 1) _ (by omega) lt (W.frame _ s2 _ _ st2 (Nat.le_succ _) fun b hb o e => ?_) has4 fun s3 mv3 has5 => ?_⟩
    · rw [same.2 b (fun q : b = S => out (by rw [← q]; exact hb))] <;> exact e
    · refine fin s3 (Moved.trans W.gtrans ((mv.mono wide).then_heap (Nat.le_succ _) fun b o nb e => ?_) mv3) has5
      rw [same.2 b (fun q : b = S => nb (by rw [q]; exact List.mem_cons_self))] <;> exact e
end
abbrev emptyS (led : Bool) : Obj := { cls := .type "set", dict := none, data := .set #[] 0 (.fresh 0 0 led) }
section
variable {p : Program} {w : World} {A : Around} {E : Value → Shared → Prop} {s : Shared}

set_option maxHeartbeats 8000000 in
/-- set(x), x a list of unlike texts -/
theorem set_of_list {l : Addr} {its : Array Value} {zs : List Str} {Q : Value → Shared → Prop} (calm : A.handled = none) (at_ : s.heap.IsList l its) (are : StrsAre its.toList zs) (nd : zs.Nodup) (few : zs.length + 1 < scanBound)
    (k : ∀ (g : Heap) (tk : Nat), g.SetOf (strKind p w) s.heap.objs.size (fun y => zs.any (· == y)) its.size → (∀ b o, s.heap.get? b = some o → g.get? b = some o) → Q (.ref s.heap.objs.size) { s with heap := g, toks := tk }) : wpAny (model p w) A (call (.type "set") [.ref l]) Q E s := by
  obtain ⟨c0, c1, eMro⟩ := F.called_set.mro; have eMade := F.called_set.made; have eSub := F.called_set.sub
  refine wpAny_call (codeAny_of_tree ?_); show wpAny _ _ (callAny (.type "set") _) _ _ _
  refine wpAny_pure ⟨Code.quiet_builtin _ (by decide +kernel), codeAny_builtin F.entry_type_call ?_⟩; rw [Around.under_plain (weight_type_call_type "set" [.ref l] []) rfl]
  have e1 := F.called_set.notType; have e2 := F.called_set.canCreate; have e3 := F.typeCall_set_1 (.ref l)
  repeat (any_goals (first | assumption | wp_step))
  refine codeAny_mono (code_set_new_1 (.ref l) (E := E) (Q₁ := fun o s₁ => ∃ led, o = .ref s.heap.objs.size ∧ s₁ = { s with heap := s.heap.push (emptyS led) }) fun led => ⟨led, rfl, rfl⟩) fun r s₁ er => ?_
  match r, er with
  | .error _, er => exact er
  | .ok .next, er => exact er.elim
  | .ok .brk, er => exact er.elim
  | .ok .cont, er => exact er.elim
  | .ok (.ret o), ⟨led, e5, e6⟩ =>
    subst e5 e6
    have eS : (s.heap.push (emptyS led)).get? s.heap.objs.size = some (emptyS led) := Heap.get?_push_size _ rfl
    have eT : Shared.TypeIs { s with heap := s.heap.push (emptyS led) } (.ref s.heap.objs.size) "set" := ⟨_, eS, rfl⟩
    have e7 := F.called_set.init.lookup; have e8 := F.called_set.init.bind (.ref s.heap.objs.size)
    repeat (any_goals (first | assumption | wp_step))
    refine codeAny_mono (codeAny_call_builtin (R := wants (fun r s₂ => r = .none ∧ ∃ g tk, s₂ = { s with heap := g, toks := tk } ∧ g.SetOf (strKind p w) s.heap.objs.size (fun y => zs.any (· == y)) its.size ∧ ∀ b o, s.heap.get? b = some o → g.get? b = some o) E) F.called_set.init.plain F.entry_set_init (check_set_init_1 eT ?_)) fun r₂ s₂ er₂ => ?_
    · obtain ⟨⟨cls, odc, odt, osl⟩, here, ecl, m, edt⟩ := at_
      simp only at ecl edt; subst ecl edt
      have here2 : (s.heap.push (emptyS led)).get? l = some { cls := .type "list", dict := odc, data := .seq its m, slots := osl } := Heap.get?_push_of_some _ here
      have f1 := F.sub_list_set; have f2 := F.sub_list_frozenset; have f3 : (Value.type "list" == Value.type "dict") = false := by decide
      have its1 : (s.heap.push (emptyS led)).IsList l its := ⟨_, here2, rfl, m, rfl⟩
      unfold Builtin.«set.__init__» noKeywords Builtin.Frozenset.updateFrom
      generalize eIter : pyIter = It
      wp_walk
      subst eIter
      refine wpAny_pyIter_list its1 (wpAny_bind (wpAny_runValue ?_))
      have lt : l < s.heap.objs.size := Heap.lt_size here
      have calm3 : A.in1.in1.in1.handled = none := by simp [calm]
      have ps : (s.heap.push (emptyS led)).objs.size = s.heap.objs.size + 1 := Heap.size_push ..
      have n1 : l ≠ (s.heap.push (emptyS led)).objs.size := by rw [ps]; exact Nat.ne_of_lt (Nat.lt_succ_of_lt lt)
      have n2 : s.heap.objs.size ∉ [(s.heap.push (emptyS led)).objs.size, l] := by simp only [List.mem_cons, List.not_mem_nil, or_false, not_or, ps]; exact ⟨Nat.ne_of_lt (Nat.lt_succ_self _), Nat.ne_of_gt lt⟩
      have sz : zs.length = its.size := by rw [← StrsAre.len_eq are, Array.length_toList]
      have eS2 : ((s.heap.push (emptyS led)).push { cls := .type "list_iterator", data := .fields #[.ref l, .int 0 0] }).get? s.heap.objs.size = some (emptyS led) := Heap.get?_push_of_some _ eS
      refine strs_put ((Walks.list calm3 _ l n1 its).toS) s.heap.objs.size n2 zs sz nd (by omega) (fun i v ev => SS.strs_at are i v (by rw [Array.getElem?_toList]; exact ev)) its.size 0 _ rfl (Nat.zero_le _) ⟨⟨_, Heap.get?_push_size _ rfl, rfl, rfl⟩, its1.push _⟩
        (SetOf_congr ((setObjOf_fresh (knd := strKind p w) led).setOf eS2 (by unfold scanBound; omega)) (fun _ => rfl) rfl) fun s3 mv S3 => ?_
      obtain ⟨g3, gs3, dr3, tk3, os3⟩ := s3
      obtain rfl : gs3 = s.gens := mv.gens; obtain rfl : dr3 = s.drawn := mv.drawn; obtain rfl : os3 = s.os := mv.os
      show wpAny _ _ _ _ _ _; refine wpAny_pure ?_
      show wpAny _ _ (ret Value.none) _ _ _; refine wpAny_pure ⟨rfl, g3, tk3, rfl, S3, fun b o e => ?_⟩
      have lb : b < s.heap.objs.size := Heap.lt_size e
      exact mv.heap b o (by simp only [List.mem_cons, List.not_mem_nil, or_false, not_or, ps]; exact ⟨Nat.ne_of_lt lb, Nat.ne_of_lt (Nat.lt_succ_of_lt lb)⟩) (Heap.get?_push_of_some _ (Heap.get?_push_of_some _ e))
    · match r₂, er₂ with
      | .error _, er₂ => exact er₂
      | .ok .next, er₂ => exact er₂.elim
      | .ok .brk, er₂ => exact er₂.elim
      | .ok .cont, er₂ => exact er₂.elim
      | .ok (.ret _), ⟨e9, g, tk, e10, S9, k9⟩ =>
        subst e9 e10
        repeat (any_goals (first | assumption | wp_step))
        exact k _ _ S9 k9

set_option maxHeartbeats 8000000 in
/-- set(x), x a tuple of unlike texts -/
theorem set_of_tuple {l : Addr} {its : Array Value} {zs : List Str} {Q : Value → Shared → Prop} (calm : A.handled = none) (at_ : s.heap.IsTuple l its) (are : StrsAre its.toList zs) (nd : zs.Nodup) (few : zs.length + 1 < scanBound)
    (k : ∀ (g : Heap) (tk : Nat), g.SetOf (strKind p w) s.heap.objs.size (fun y => zs.any (· == y)) its.size → (∀ b o, s.heap.get? b = some o → g.get? b = some o) → Q (.ref s.heap.objs.size) { s with heap := g, toks := tk }) : wpAny (model p w) A (call (.type "set") [.ref l]) Q E s := by
  obtain ⟨c0, c1, eMro⟩ := F.called_set.mro; have eMade := F.called_set.made; have eSub := F.called_set.sub
  refine wpAny_call (codeAny_of_tree ?_); show wpAny _ _ (callAny (.type "set") _) _ _ _
  refine wpAny_pure ⟨Code.quiet_builtin _ (by decide +kernel), codeAny_builtin F.entry_type_call ?_⟩; rw [Around.under_plain (weight_type_call_type "set" [.ref l] []) rfl]
  have e1 := F.called_set.notType; have e2 := F.called_set.canCreate; have e3 := F.typeCall_set_1 (.ref l)
  repeat (any_goals (first | assumption | wp_step))
  refine codeAny_mono (code_set_new_1 (.ref l) (E := E) (Q₁ := fun o s₁ => ∃ led, o = .ref s.heap.objs.size ∧ s₁ = { s with heap := s.heap.push (emptyS led) }) fun led => ⟨led, rfl, rfl⟩) fun r s₁ er => ?_
  match r, er with
  | .error _, er => exact er
  | .ok .next, er => exact er.elim
  | .ok .brk, er => exact er.elim
  | .ok .cont, er => exact er.elim
  | .ok (.ret o), ⟨led, e5, e6⟩ =>
    subst e5 e6
    have eS : (s.heap.push (emptyS led)).get? s.heap.objs.size = some (emptyS led) := Heap.get?_push_size _ rfl
    have eT : Shared.TypeIs { s with heap := s.heap.push (emptyS led) } (.ref s.heap.objs.size) "set" := ⟨_, eS, rfl⟩
    have e7 := F.called_set.init.lookup; have e8 := F.called_set.init.bind (.ref s.heap.objs.size)
    repeat (any_goals (first | assumption | wp_step))
    refine codeAny_mono (codeAny_call_builtin (R := wants (fun r s₂ => r = .none ∧ ∃ g tk, s₂ = { s with heap := g, toks := tk } ∧ g.SetOf (strKind p w) s.heap.objs.size (fun y => zs.any (· == y)) its.size ∧ ∀ b o, s.heap.get? b = some o → g.get? b = some o) E) F.called_set.init.plain F.entry_set_init (check_set_init_1 eT ?_)) fun r₂ s₂ er₂ => ?_
    · obtain ⟨⟨cls, odc, odt, osl⟩, here, ecl, m, edt⟩ := at_
      simp only at ecl edt; subst ecl edt
      have here2 : (s.heap.push (emptyS led)).get? l = some { cls := .type "tuple", dict := odc, data := .seq its m, slots := osl } := Heap.get?_push_of_some _ here
      have f1 := F.sub_tuple_set; have f2 := F.sub_tuple_frozenset; have f3 : (Value.type "tuple" == Value.type "dict") = false := by decide
      have its1 : (s.heap.push (emptyS led)).IsTuple l its := ⟨_, here2, rfl, m, rfl⟩
      unfold Builtin.«set.__init__» noKeywords Builtin.Frozenset.updateFrom
      generalize eIter : pyIter = It
      wp_walk
      subst eIter
      refine wpAny_pyIter_tuple its1 (wpAny_bind (wpAny_runValue ?_))
      have lt : l < s.heap.objs.size := Heap.lt_size here
      have calm3 : A.in1.in1.in1.handled = none := by simp [calm]
      have ps : (s.heap.push (emptyS led)).objs.size = s.heap.objs.size + 1 := Heap.size_push ..
      have n1 : l ≠ (s.heap.push (emptyS led)).objs.size := by rw [ps]; exact Nat.ne_of_lt (Nat.lt_succ_of_lt lt)
      have n2 : s.heap.objs.size ∉ [(s.heap.push (emptyS led)).objs.size, l] := by simp only [List.mem_cons, List.not_mem_nil, or_false, not_or, ps]; exact ⟨Nat.ne_of_lt (Nat.lt_succ_self _), Nat.ne_of_gt lt⟩
      have sz : zs.length = its.size := by rw [← StrsAre.len_eq are, Array.length_toList]
      have eS2 : ((s.heap.push (emptyS led)).push { cls := .type "tuple_iterator", data := .fields #[.ref l, .int 0 0] }).get? s.heap.objs.size = some (emptyS led) := Heap.get?_push_of_some _ eS
      refine strs_put ((Walks.tuple calm3 _ l n1 its).toS) s.heap.objs.size n2 zs sz nd (by omega) (fun i v ev => SS.strs_at are i v (by rw [Array.getElem?_toList]; exact ev)) its.size 0 _ rfl (Nat.zero_le _) ⟨⟨_, Heap.get?_push_size _ rfl, rfl, rfl⟩, its1.push _⟩
        (SetOf_congr ((setObjOf_fresh (knd := strKind p w) led).setOf eS2 (by unfold scanBound; omega)) (fun _ => rfl) rfl) fun s3 mv S3 => ?_
      obtain ⟨g3, gs3, dr3, tk3, os3⟩ := s3
      obtain rfl : gs3 = s.gens := mv.gens; obtain rfl : dr3 = s.drawn := mv.drawn; obtain rfl : os3 = s.os := mv.os
      show wpAny _ _ _ _ _ _; refine wpAny_pure ?_
      show wpAny _ _ (ret Value.none) _ _ _; refine wpAny_pure ⟨rfl, g3, tk3, rfl, S3, fun b o e => ?_⟩
      have lb : b < s.heap.objs.size := Heap.lt_size e
      exact mv.heap b o (by simp only [List.mem_cons, List.not_mem_nil, or_false, not_or, ps]; exact ⟨Nat.ne_of_lt lb, Nat.ne_of_lt (Nat.lt_succ_of_lt lb)⟩) (Heap.get?_push_of_some _ (Heap.get?_push_of_some _ e))
    · match r₂, er₂ with
      | .error _, er₂ => exact er₂
      | .ok .next, er₂ => exact er₂.elim
      | .ok .brk, er₂ => exact er₂.elim
      | .ok .cont, er₂ => exact er₂.elim
      | .ok (.ret _), ⟨e9, g, tk, e10, S9, k9⟩ =>
        subst e9 e10
        repeat (any_goals (first | assumption | wp_step))
        exact k _ _ S9 k9
end
end LkS
namespace Lk
open PySem PySem.Spec PyProof.Rows L2
/-- len(set(x)), x a list or a tuple of unlike texts -/
def tLenSetD (K : PySem.W.Frag) (ta : TE) : TE := fun σ H Q => ta σ H fun x H1 => ∃ l, ∃ zs : List Str, x = .ref l ∧ Sq K H1 l (zs.map V.str) ∧ zs.Nodup ∧ zs.length ≤ 1000 ∧ Q (.int zs.length) H1
theorem pe_lenSetD {X : Cx} {a : Expr} {ta : TE} {u1 u2 u3 pos : Pos} (hc : X.calm = true) (hg : Gl X "len") (hm : X.mg "len" = none) (hg2 : Gl X "set") (hm2 : X.mg "set" = none) (ha : PE X a ta)
    (na : starEach [a] X.env = (false, eval a X.env) :: starEach [] X.env := by rfl) : PE X (.Call (.Name "len" u1) [.Call (.Name "set" u2) [a] [] u3] [] pos) (tLenSetD X.K ta) := by
  refine ⟨fun pins s σ H Q I h => Call_ (ld_blt I hg hm boot_len (callWith_builtin1 (args_cons ?_ rfl) rfl rfl))⟩
  refine Call_ (ld_blt I hg2 hm2 boot_set (callWith_type1 (args_cons (thn (ha.run pins s σ H _ I h) fun v s1 ⟨x, H1, I1, r1, q1⟩ => args_nil ?_) na) na rfl))
  obtain ⟨l, zs, rfl, sq, nd, few, q1⟩ := q1
  cases r1
  have lb : zs.length + 1 < scanBound := by unfold scanBound; omega
  have go : ∀ (its : List Value), Vals (zs.map V.str) its → ∀ (g : Heap) (tk : Nat), g.SetOf (strKind X.prog X.w) s1.heap.objs.size (fun y => zs.any (· == y)) its.toArray.size → (∀ b o, s1.heap.get? b = some o → g.get? b = some o) →
      wpAny (model X.prog X.w) X.A (spliced (backTo pos (starEach [] X.env))) (fun vs s₂ => wpAny (model X.prog X.w) X.A (call (.builtin "len") (Value.ref s1.heap.objs.size :: vs)) (EP X pins σ Q) X.xe s₂) X.xe { s1 with heap := g, toks := tk } := fun its r g tk has keep => by
    refine args_nil ?_
    have sz : its.toArray.size = zs.length := by rw [List.size_toArray, ← r.length, List.length_map]
    rw [sz] at has
    obtain ⟨o, es, ep, t, ho, hex, hd, _, _, _, hf, hn⟩ := has
    have I2 : Inv X pins σ H1 { s1 with heap := g, toks := tk } := I1.kept fun b o e => keep b o e
    exact call_len_set ho hex hd hf (by rw [hn] <;> unfold scanBound at lb <;> omega) ⟨.int zs.length, H1, I2.tok _, ⟨_, by rw [hn]⟩, q1⟩
  rcases sq with sq | sq
  · obtain ⟨its, r, pl, _⟩ := I1.list sq
    exact LkS.set_of_list (I1.ok.hd hc) pl.isList (by simpa using strsAre_of r) nd lb fun g tk has keep => go its r g tk has keep
  · obtain ⟨its, r, pl, _⟩ := I1.tuple sq
    exact LkS.set_of_tuple (I1.ok.hd hc) pl (by simpa using strsAre_of r) nd lb fun g tk has keep => go its r g tk has keep
end Lk
set_option Elab.async false
set_option linter.all false
set_option maxRecDepth 100000
set_option maxHeartbeats 4000000
set_option pp.maxSteps 1200
set_option pp.deepTerms false
namespace K6
open PySem PySem.Spec PyProof.Rows L2 Lk
abbrev sIsName : Stmt := top 6
abbrev sAreNames : Stmt := top 7
def LETTERS : Str := "abcdefghijklmnopqrstuvwxyz"
/-- more names that the text leaves alone, and its constants -/
structure Cn (mg : Str → Option Value) : Prop where
  str : mg "str" = none
  tuple : mg "tuple" = none
  set : mg "set" = none
  sum : mg "sum" = none
  sorted : mg "sorted" = none
  zip : mg "zip" = none
  dict : mg "dict" = none
  letters : ∃ t, mg "LETTERS" = some (.str LETTERS t)
def LowOk (z : Str) : Prop := 1 ≤ z.length ∧ z.length ≤ 8 ∧ ∀ c ∈ z.cps.toList, c ∈ LETTERS.cps.toList
instance (z : Str) : Decidable (LowOk z) := by unfold LowOk; infer_instance
theorem low_parts : ∀ p ∈ partPool, LowOk p := by decide +kernel
theorem low_names : ∀ p ∈ namePool, LowOk p := by decide +kernel
theorem str_lc {z : Str} {g : TG} {tt : TT} {te : TE} {vs : List Nat} {σ : L2.St} {H1 : Hp} {Q : VK} (f : Nat → Option V) (few : z.cps.toList.length ≤ 100000)
    (hs : ∀ (i : Nat) c H (R : VK) (Rn : Hp → Prop), z.cps.toList[i]? = some c → Same H1 H → (∀ H4 y, f c = some y → Same H H4 → R y H4) → (∀ H4, f c = none → Same H H4 → Rn H4) →
      g (.str ⟨#[c]⟩) (wipe σ vs) H fun σ2 H2 => wipe σ2 vs = wipe σ vs ∧ tt σ2 H2 fun c H3 => if c = true then te σ2 H3 R else Rn H3)
    (hd : ∀ D H, H1 D = none → Same H1 H → H D = some (.lst (z.cps.toList.filterMap f)) → Q (.ref D) H) : LcR (Its z) g tt te vs σ H1 Q := by
  intro D nD
  refine lc_fm walk_str z.cps.toList f (by simp) (by simpa using few) nD (fun _ _ => trivial) ?_ (fun H s e => hd D H nD s e)
  rintro i x b H H' R Rn hb s ⟨rfl, c, hc, rfl⟩ k1 k2
  have : b = c := by
    rw [Array.getElem?_toList, hc] at hb
    exact (Option.some.inj hb).symm
  subst this
  exact hs i b _ R Rn hb s k1 k2
theorem fm_bl {α : Type} (q : α → Bool) (xs : List α) : (xs.filterMap fun x => some (V.bl (q x))) = (xs.map q).map V.bl := by
  induction xs with
  | nil => rfl
  | cons x xs ih => simp [List.filterMap_cons, ih]
/-- all([q(x) for x in xs]) -/
theorem seq_all {α : Type} {K : PySem.W.Frag} {a : Addr} {g : TG} {te : TE} {vs : List Nat} {σ : L2.St} {H1 : Hp} {R : VK} (xs : List α) (e : α → V) (q : α → Bool) (hq : Sq K H1 a (xs.map e)) (few : xs.length ≤ 100000)
    (hs : ∀ (i : Nat) b H (R' : VK), xs[i]? = some b → Same H1 H → (∀ H4, Same H H4 → R' (.bl (q b)) H4) → g (e b) (wipe σ vs) H fun σ2 H2 => wipe σ2 vs = wipe σ vs ∧ te σ2 H2 R')
    (hd : ∀ H, Same H1 H → R (.bl (xs.all q)) H) :
    ((∃ zs, SqL K H1 a zs) ∧ LcR (Itl K a) g tYes te vs σ H1 fun x H2 => tNil σ H2 fun xs H3 => rAll K (x :: xs) H3 R) ∨ ((∃ zs, SqT K H1 a zs) ∧ LcR (Itt K a) g tYes te vs σ H1 fun x H2 => tNil σ H2 fun xs H3 => rAll K (x :: xs) H3 R) := by
  refine seq_lc (Q := fun x H2 => rAll K [x] H2 R) xs e (fun x => some (.bl (q x))) hq few (fun i b H R' Rn hb s k1 k2 => ?_) fun D H nD s ed => ?_
  · have z := hs i b H R' hb s fun H4 s4 => k1 H4 _ rfl s4
    have ty : (fun σ2 H2 => wipe σ2 vs = wipe σ vs ∧ te σ2 H2 R') = (fun (σ2 : L2.St) H2 => wipe σ2 vs = wipe σ vs ∧ tYes σ2 H2 fun c H3 => if c = true then te σ2 H3 R' else Rn H3) := by
      funext σ2 H2
      show _ = (_ ∧ (if true = true then te σ2 H2 R' else Rn H2))
      rw [if_pos rfl]
    rw [ty] at z
    exact z
  · rw [fm_bl] at ed
    refine ⟨D, _, rfl, SqL.of ed, ?_⟩
    have : (xs.map q).all id = xs.all q := by simp [List.all_map]
    rw [this]
    exact hd H s
section
variable {P : Program} {w : World} {K : PySem.W.Frag} {mg : Str → Option Value} {base : Heap} {f : Addr} {fd : FuncData}
theorem isi_str {K : PySem.W.Frag} {H : Hp} {z : Str} {Q : VK} (q : Q (.bl true) H) : rIsi K [.str z, .ty "str"] H Q := ⟨_, _, _, _, true, rfl, .ty _, .base (.str _), by rfl, q⟩
def spIsName : Sp := fun vs H Q _ => ∃ z : Str, vs = [.str z] ∧ LowOk z ∧ ∀ H', Same H H' → Q (.bl true) H'
theorem scIsName : FnScope ["value", "sign"] ["value"] (defScope sIsName) := ⟨rfl, rfl, rfl, by decide +kernel, rfl, by decide +kernel, by decide +kernel⟩
theorem ok_isName (F : Fun K "is_name" "is_name" sIsName f fd) (T : Bl mg) (C : Cn mg) : FnOk P w K mg base CX0 1 f fd ["value"] spIsName := by
  refine F.ok scIsName (fun vs H Q E h => ?_) (fun cdv A outer s H vs Q E hr h => ?_)
  · obtain ⟨z, rfl, _⟩ := h
    rfl
  · obtain ⟨z, rfl, ⟨z1, z8, zl⟩, k⟩ := h
    have nd := scIsName.nd
    obtain ⟨t, ht⟩ := C.letters
    refine ⟨_, pss_cons (ps_if (PW.pt (pw_or (pt_not (pt_val (pe_callB call_isi (by rfl) T.isin boot_isinstance (pa_cons (pv 0) (pa_cons (pe_bltn (v := .ty "str") (by rfl) C.str rfl rfl) pa_nil)))))
        (pw_or1 (pt_not (pt_chain op_le op_le pe_int (pe_callB call_len_str (by rfl) T.len PySem.boot_len (pa_cons (pv 0) pa_nil)) pe_int))))) (pss_no) pss_nil)
      (pss_one (ps_ret (pe_callB (cr_all rfl) (by rfl) T.all boot_all (pa_cons (pe_lc (own := [("sign", 1)]) (g := gName 1) (tt := tYes) (te := tOp (fun x y H Q => ∃ (c : Nat) (z : Str), x = .str ⟨#[c]⟩ ∧ y = .str z ∧ Q (.bl (decide (c ∈ z.cps.toList))) H) (tVar 1) (tC (.str LETTERS))) rfl nd (pi_str (pv 0)) (blkOk_by (N := ["value", "sign"]) (sc := defScope sIsName) (by decide +kernel))
          (fun _ _ _ _ _ => pg_name (i := 1) nd rfl (Or.inl rfl)) (fun _ _ _ _ _ => pts_nil) (fun _ _ _ _ _ => pe_cmpR op_in_sign (pv 1) (pe_glob (v := .str LETTERS) (by rfl) ht ⟨_, rfl⟩) rfl)) pa_nil)))), ?_⟩
    refine ⟨_, rfl, _, _, _, _, true, rfl, .ty _, .base (.str _), by rfl, _, rfl, iteB rfl ?_⟩
    refine ⟨_, rfl, z, rfl, by rw [sizeLine_eq]; omega, _, _, rfl, rfl, _, rfl, iteA (decide_eq_true (by show (1 : Int) ≤ z.length; omega)) ?_⟩
    refine ⟨_, _, rfl, rfl, _, rfl, iteB ?_ ?_⟩
    · show (!decide ((z.length : Int) ≤ 8)) = false
      rw [decide_eq_true (by omega)]
      rfl
    have zz : z.cps.toList.length ≤ 8 := by simpa [Str.length] using z8
    refine ⟨_, rfl, z, rfl, str_lc (Q := fun x H1 => rAll K [x] H1 Q) (fun c => some (.bl (decide (c ∈ LETTERS.cps.toList)))) (by omega) ?_ ?_⟩
    · intro i c H1 R Rn hc s1 k1 k2
      exact ⟨rfl, _, rfl, c, LETTERS, rfl, rfl, k1 _ _ rfl (Same.refl _)⟩
    · intro D H1 nD s1 e
      rw [fm_bl] at e
      refine ⟨D, _, rfl, SqL.of e, ?_⟩
      have : (z.cps.toList.map fun c => decide (c ∈ LETTERS.cps.toList)).all id = true := by
        rw [List.all_eq_true]
        intro b hb
        obtain ⟨c, hc, rfl⟩ := List.mem_map.mp hb
        exact decide_eq_true (zl c hc)
      rw [this]
      exact k _ s1
/-! ### are_names -/
def spAreNames (K : PySem.W.Frag) : Sp := fun vs H Q _ => ∃ (l : Addr) (zs : List Str), vs = [.ref l] ∧ Sq K H l (zs.map V.str) ∧ zs.length ≤ 1000 ∧ (∀ z ∈ zs, LowOk z) ∧ zs.Nodup ∧ ∀ H', Same H H' → Q (.bl true) H'
theorem scAreNames : FnScope ["some", "name"] ["some"] (defScope sAreNames) := ⟨rfl, rfl, rfl, by decide +kernel, rfl, by decide +kernel, by decide +kernel⟩
theorem ok_areNames {f1 : Addr} {fd1 : FuncData} (F : Fun K "are_names" "are_names" sAreNames f fd) (T : Bl mg) (C : Cn mg) (F1 : Fun K "is_name" "is_name" sIsName f1 fd1) (b1 : Binds K fd1 ["value"] []) (m1 : mg "is_name" = some (.ref f1)) :
    FnOk P w K mg base CX0 2 f fd ["some"] (spAreNames K) := by
  have G1 : FnOk P w K mg base CX0 1 f1 fd1 ["value"] spIsName := ok_isName F1 T C
  refine F.ok scAreNames (fun vs H Q E h => ?_) (fun cdv A outer s H vs Q E hr h => ?_)
  · obtain ⟨l, zs, rfl, _⟩ := h
    rfl
  · obtain ⟨l, zs, rfl, hl, few, low, ndz, k⟩ := h
    have nd := scAreNames.nd
    refine ⟨_, pss_one (ps_ret (pe_and (pe_callB (cr_all rfl) (by rfl) T.all boot_all (pa_cons (pe_lc (own := [("name", 1)]) (g := gName 1) (tt := tYes) (te := tCall spIsName [] E0 (tCons (tVar 1) tNil)) rfl nd (pi_seq (pi_list (pv 0)) (pi_tup (pv 0))) (blkOk_by (N := ["some", "name"]) (sc := defScope sAreNames) (by decide +kernel))
          (fun _ _ _ _ _ => pg_name (i := 1) nd rfl (Or.inl rfl)) (fun _ _ _ _ _ => pts_nil) (fun _ _ _ _ _ => pe_call G1 hr (by rfl) m1 F1.kp b1 .nil pass0 (pa_cons (pv 1) pa_nil))) pa_nil))
        (pe_one (pe_cmpR op_eq (pe_lenSetD rfl (by rfl) T.len (by rfl) C.set (pv 0)) (pe_callB call_len_seq (by rfl) T.len PySem.boot_len (pa_cons (pv 0) pa_nil)) (nomark _))))), ?_⟩
    refine ⟨l, rfl, seq_all zs V.str (fun _ => true) hl (by omega) (fun i z H1 R hz s1 k1 => ⟨rfl, _, rfl, z, rfl, low z (List.mem_of_getElem? hz), fun H2 s2 => k1 _ s2⟩) fun H1 s1 => ?_⟩
    have : (zs.all fun _ => true) = true := by simp
    rw [this]
    refine ⟨_, rfl, iteT ⟨_, rfl, l, zs, rfl, hl.same s1, ndz, few, _, rfl, l, _, rfl, hl.same s1, rfl, ?_⟩⟩
    rw [List.length_map, decide_eq_true rfl]
    exact k _ s1
end
end K6
set_option Elab.async false
set_option linter.all false
set_option maxRecDepth 100000
set_option maxHeartbeats 4000000
set_option pp.maxSteps 1200
set_option pp.deepTerms false
namespace K6
open PySem PySem.Spec PyProof.Rows L2 Lk
abbrev sCircInit : Stmt := inClass (top 9) 0
/-- what is asked of the class Circle -/
structure CircC (K : PySem.W.Frag) (C fI : Addr) : Prop where
  cls : Cls K C
  nm : NoAttr K C "names"
  mkr : Mk K C fI
/-- a circle of these names -/
def CircAt (K : PySem.W.Frag) (H : Hp) (C c : Addr) (zs : List Str) : Prop := ∃ dx nm, H c = some (.ins C dx [("names", .ref nm)]) ∧ SqT K H nm (zs.map V.str)
theorem _root_.L2.SqT.sq {K : PySem.W.Frag} {H : Hp} {a : Addr} {xs : List V} (h : SqT K H a xs) : SqT K H a xs := h
theorem _root_.L2.SqT.same {K : PySem.W.Frag} {H H' : Hp} {a : Addr} {xs : List V} (h : SqT K H a xs) (s : Same H H') : SqT K H' a xs := sqT_same s h
section
variable {P : Program} {w : World} {K : PySem.W.Frag} {mg : Str → Option Value} {base : Heap} {f : Addr} {fd : FuncData}
theorem isi_tup {xs : List V} {H : Hp} {a : Addr} (h : TupX H a xs) : TyX K H (.ref a) (.type "tuple") := by
  obtain ⟨ob, e, _⟩ := h
  exact .fTuple e
def spCircI (K : PySem.W.Frag) (C : Addr) : Sp := fun vs H Q _ => ∃ (x nm dx : Addr) (zs : List Str), vs = [.ref x, .ref nm] ∧ H x = some (.ins C dx []) ∧ TupX H nm (zs.map V.str) ∧ 2 ≤ zs.length ∧ zs.length ≤ 6 ∧ (∀ z ∈ zs, LowOk z) ∧ zs.Nodup ∧
  ∀ H', (∀ b o, b ≠ x → H b = some o → H' b = some o) → H' x = some (.ins C dx [("names", .ref nm)]) → Q .non H'
theorem scCircI : FnScope ["self", "names"] ["self", "names"] (defScope sCircInit) := ⟨rfl, rfl, rfl, by decide +kernel, rfl, by decide +kernel, by decide +kernel⟩
theorem ok_circI {C fC : Addr} {f1 f2 : Addr} {fd1 fd2 : FuncData} (F : Fun K "__init__" "Circle.__init__" sCircInit f fd) (T : Bl mg) (Cc : Cn mg) (CC : CircC K C fC) (F1 : Fun K "is_name" "is_name" sIsName f1 fd1) (b1 : Binds K fd1 ["value"] []) (m1 : mg "is_name" = some (.ref f1))
    (F2 : Fun K "are_names" "are_names" sAreNames f2 fd2) (b2 : Binds K fd2 ["some"] []) (m2 : mg "are_names" = some (.ref f2)) : FnOk P w K mg base CX0 3 f fd ["self", "names"] (spCircI K C) := by
  have G2 : FnOk P w K mg base CX0 2 f2 fd2 ["some"] (spAreNames K) := ok_areNames F2 T Cc F1 b1 m1
  refine F.ok scCircI (fun vs H Q E h => ?_) (fun cdv A outer s H vs Q E hr h => ?_)
  · obtain ⟨x, nm, dx, zs, rfl, _⟩ := h
    rfl
  · obtain ⟨x, nm, dx, zs, rfl, hx, hn, z2, z6, low, ndz, k⟩ := h
    have nd := scCircI.nd
    refine ⟨_, pss_cons (ps_if (PW.pt (pw_or (pt_not (pt_val (pe_callB call_isi (by rfl) T.isin boot_isinstance (pa_cons (pv 1) (pa_cons (pe_bltn (v := .ty "tuple") (by rfl) Cc.tuple rfl rfl) pa_nil)))))
        (pw_or (pt_not (pt_chain op_le op_le pe_int (pe_callB call_len_seq (by rfl) T.len PySem.boot_len (pa_cons (pv 1) pa_nil)) pe_int))
        (pw_or1 (pt_not (pt_val (pe_call G2 hr (by rfl) m2 F2.kp b2 .nil pass0 (pa_cons (pv 1) pa_nil)))))))) pss_no pss_nil)
      (pss_one (ps_fld (pv 0) (pv 1) rfl)), ?_⟩
    have zl : ((zs.map V.str).length : Int) = zs.length := by rw [List.length_map]
    refine ⟨_, rfl, _, _, _, _, true, rfl, .ty _, isi_tup hn, by rfl, _, rfl, iteB rfl ?_⟩
    refine ⟨_, rfl, nm, _, rfl, .inr hn.sq, _, _, rfl, rfl, _, rfl, iteA (decide_eq_true (by rw [zl]; omega)) ?_⟩
    refine ⟨_, _, rfl, rfl, _, rfl, iteB (by rw [decide_eq_true (by rw [zl]; omega)]; rfl) ?_⟩
    refine ⟨_, rfl, nm, zs, rfl, .inr hn.sq, by omega, low, ndz, fun H1 s1 => ⟨_, rfl, iteB rfl ?_⟩⟩
    refine ⟨_, rfl, _, rfl, x, C, dx, [], rfl, s1 _ _ hx, CC.cls, CC.nm, by decide, ?_⟩
    exact k _ (fun b o nb e => by rw [upd_ne nb]; exact s1 _ _ e) upd_same
end
end K6
set_option Elab.async false
set_option linter.all false
set_option maxRecDepth 100000
set_option maxHeartbeats 4000000
/-! Part V: t + u of tuples, t empty or not. -/
namespace Lk
open PySem PySem.Spec PyProof.Rows L2
theorem tuple_add0 (l : Addr) (items : Array Value) (n : Nat) (b : Addr) (items2 : Array Value) (n2 : Nat) (dd dd2 : Option Addr) (sl sl2 : Array (Option Value)) (hc0 : items.isEmpty = true) :
    Meets (Builtin.«tuple.__add__» ⟨[.ref l, .ref b], []⟩) (fun _ R s => s.heap.get? l = some { cls := .type "tuple", dict := dd, data := .seq items n, slots := sl } ∧ s.heap.get? b = some { cls := .type "tuple", dict := dd2, data := .seq items2 n2, slots := sl2 } ∧ R (.ok (.ret (Value.ref b))) { s with heap := s.heap, toks := s.toks }) :=
  .of_wp fun prog w A R s h => by
    obtain ⟨hp, g, d, tk, os⟩ := s; obtain ⟨hl, hb, h⟩ := h; have f1 := PySem.AutoSeq1.idx_int; have f2 := PySem.AutoSeq1.sub_tuple_tuple; have f3 := PySem.AutoSeq1.sub_list_list; have f4 := PySem.AutoSeq1.sub_tuple_list; have f5 := PySem.AutoSeq1.sub_list_tuple
    wp_walk using PySem.AutoSeq1.wpAny_loadPart' hl, PySem.AutoSeq1.wpAny_loadPart' hb; exact ⟨_, rfl, h⟩
theorem cat_tup0 {prog : Program} {w : World} {A : Around} {E : Value → Shared → Prop} {s : Shared} {t b : Addr} {ws : List Value} {Q : Value → Shared → Prop} (ht : IsTup s.heap t #[]) (hb : IsTup s.heap b ws.toArray) (h : Q (.ref b) s) : wpAny (model prog w) A (binaryOp .Add (.ref t) (.ref b)) Q E s := by
  obtain ⟨⟨cls, dd, data, sl⟩, ho, hc, n, hd⟩ := id ht
  obtain ⟨⟨cls2, dd2, data2, sl2⟩, ho2, hc2, n2, hd2⟩ := id hb
  simp only at hc hd hc2 hd2
  subst hc hd hc2 hd2
  exact concat_meets ⟨_, ho, rfl⟩ ⟨_, ho2, rfl⟩ noFill_tuple_add seq_tuple_add PySem.F.slot_tuple_add PySem.F.entry_tuple_add (PySem.F.args_tuple_add_2 _ _)
    (tuple_add0 t _ n b ws.toArray n2 dd dd2 sl sl2 (by simp)) ⟨ho, ho2, h⟩
/-- t + u, u not empty -/
def rCatT2 (K : PySem.W.Frag) : R2 := fun x y H Q => ∃ a b xs ys, x = .ref a ∧ y = .ref b ∧ SqT K H a xs ∧ SqT K H b ys ∧ ys ≠ [] ∧ xs.length + ys.length ≤ sizeLine ∧ (xs = [] → Q (.ref b) H) ∧ (xs ≠ [] → ∀ p, H p = none → Q (.ref p) (upd H p (.tup (xs ++ ys))))
theorem op_catT2 {X : Cx} : OpR X (binaryOp .Add) (rCatT2 X.K) := by
  intro pins s σ H x y v u Q I rx ry h
  obtain ⟨a, b, xs, ys, rfl, rfl, ha, hb, hy, hz, q1, q2⟩ := h
  by_cases hx : xs = []
  · subst hx
    cases rx
    cases ry
    obtain ⟨its, r1, p1, _⟩ := I.tuple ha
    obtain ⟨its2, r2, p2, _⟩ := I.tuple hb
    cases r1
    exact cat_tup0 p1 p2 ⟨.ref b, H, I, rfl, q1 rfl⟩
  · exact op_catT pins s σ H _ _ _ _ Q I rx ry ⟨a, b, xs, ys, rfl, rfl, ha, hb, hx, hz, fun e => absurd e hy, fun _ => q2 hx⟩
end Lk
set_option Elab.async false
set_option linter.all false
set_option maxRecDepth 100000
set_option maxHeartbeats 4000000
set_option pp.maxSteps 1200
set_option pp.deepTerms false
namespace K6
open PySem PySem.Spec PyProof.Rows L2 Lk
abbrev sIsLot : Stmt := top 13
abbrev sRefLot : Stmt := top 14
theorem sub_filterG {α : Type} [DecidableEq α] {ss zs : List α} (h : ss.Sublist zs) : zs.Nodup → zs.filter (fun z => decide (z ∈ ss)) = ss := by
  induction h with
  | slnil => intro _; rfl
  | cons a h ih =>
    intro nd
    have n2 := List.nodup_cons.mp nd
    rw [List.filter_cons_of_neg (by simpa using fun m => n2.1 (h.subset m))]
    exact ih n2.2
  | @cons_cons l1 l2 a h ih =>
    intro nd
    have n2 := List.nodup_cons.mp nd
    rw [List.filter_cons_of_pos (by simp)]
    have e : l2.filter (fun z => decide (z ∈ a :: l1)) = l2.filter (fun z => decide (z ∈ l1)) := List.filter_congr fun z hz => by
      have : z ≠ a := fun e => n2.1 (e ▸ hz)
      simp [this]
    rw [e, ih n2.2]
theorem paired_fmG {α β : Type} {R : α → β → Prop} (q : β → Bool) : ∀ ys : List (α × β), (∀ z ∈ ys, R z.1 z.2) → Paired R (ys.filterMap fun y => if q y.2 = true then some y.1 else none) ((ys.map (·.2)).filter q)
  | [], _ => .nil
  | y :: ys, h => by
    have ih := paired_fmG q ys fun z hz => h z (List.mem_cons_of_mem _ hz)
    by_cases m : q y.2 = true
    · rw [List.filterMap_cons, if_pos m, List.map_cons, List.filter_cons_of_pos m]
      exact .cons (h y List.mem_cons_self) ih
    · rw [List.filterMap_cons, if_neg m, List.map_cons, List.filter_cons_of_neg m]
      exact ih
theorem strs_inV (z : Str) (ys : List Str) : inV (.str z) (ys.map V.str) = decide (z ∈ ys) := by
  rw [inV_str]
theorem fm_strs (q : Str → Bool) : ∀ zs : List Str, (zs.filterMap fun z => if q z = true then some (V.str z) else none) = (zs.filter q).map V.str
  | [] => rfl
  | z :: zs => by
    have ih := fm_strs q zs
    by_cases m : q z = true
    · rw [List.filterMap_cons, if_pos m, List.filter_cons_of_pos m, List.map_cons, ih]
    · rw [List.filterMap_cons, if_neg m, List.filter_cons_of_neg m, ih]
section
variable {P : Program} {w : World} {K : PySem.W.Frag} {mg : Str → Option Value} {base : Heap} {f : Addr} {fd : FuncData}
/-! ### is_lot, refuse_lot -/
/-- names of keepers as they are drawn -/
structure NmOk (ns : List Str) : Prop where
  nd : ns.Nodup
  k6 : ns.length ≤ 6
  ok : ∀ z ∈ ns, PyData.strOk z = true ∧ z.length ≤ 8
def LotAt (H : Hp) (t : Addr) (ys : List Str) : Prop := H t = some (.tup (ys.map V.str))
/-- the same, or a tuple that has methods -/
def LotE (H : Hp) (t : Addr) (ys : List Str) : Prop := H t = some (.tup (ys.map V.str)) ∨ TupX H t (ys.map V.str)
theorem LotE.same {H H' : Hp} {t : Addr} {ys : List Str} (h : LotE H t ys) (s : Same H H') : LotE H' t ys := h.elim (fun h => .inl (s _ _ h)) fun h => .inr (h.same s)
theorem LotE.sq {K : PySem.W.Frag} {H : Hp} {t : Addr} {ys : List Str} (h : LotE H t ys) : SqT K H t (ys.map V.str) := h.elim (fun h => SqT.of h) fun h => h.sq
theorem LotE.ty {K : PySem.W.Frag} {H : Hp} {t : Addr} {ys : List Str} (h : LotE H t ys) : TyX K H (.ref t) (.type "tuple") := h.elim (fun h => .base (.tup h)) fun h => isi_tup h
theorem scIsLot : FnScope ["circle", "value", "name"] ["circle", "value"] (defScope sIsLot) := ⟨rfl, rfl, rfl, by decide +kernel, rfl, by decide +kernel, by decide +kernel⟩
theorem scRefLot : FnScope ["circle", "value"] ["circle", "value"] (defScope sRefLot) := ⟨rfl, rfl, rfl, by decide +kernel, rfl, by decide +kernel, by decide +kernel⟩
end
end K6
set_option Elab.async false
set_option linter.all false
set_option maxRecDepth 100000
set_option maxHeartbeats 1500000
/-! a dict is no tuple: d == t -/
namespace Lk
open PySem PySem.Spec PyProof.Rows L2 PySem.SeqAt PySem.MeetsSeq
open PySem.AutoSeq1 (wpAny_loadPart')
theorem tuple_eq_declines_dict (l b : Addr) (items : Array Value) (n : Nat) (dd : Option Addr) (sl : Array (Option Value)) (o2 : Obj) (hc : o2.cls = .type "dict") :
    Meets (Builtin.«tuple.__eq__» ⟨[.ref l, .ref b], []⟩) (fun _ R s => s.heap.get? l = some { cls := .type "tuple", dict := dd, data := .seq items n, slots := sl } ∧ s.heap.get? b = some o2 ∧ R (.ok (.ret .notImplemented)) s) := by
  obtain ⟨cls, d2, data2, slots2⟩ := o2
  dsimp only at hc
  subst hc
  exact .of_wp fun prog w A R s h => by obtain ⟨hp, g, d, tk, os⟩ := s; obtain ⟨hl, hb, h⟩ := h; have f1 := F.sub_dict_tuple; wp_walk using wpAny_loadPart' hl, wpAny_loadPart' hb; exact ⟨_, rfl, h⟩
section
variable {prog : Program} {w : World} {A : Around} {E : Value → Shared → Prop} {s : Shared}
theorem dict_eq_declines {a b : Addr} (ha : s.TypeIs (.ref a) "dict") (hb : s.TypeIs (.ref b) "tuple") (Q' : Value → Shared → Prop) (h : Q' .notImplemented s) :
    wpAny (model prog w) A (call (.builtin "dict.__eq__") [.ref a, .ref b]) Q' E s := by
  refine wpAny_call_entry PySem.F.slot_dict_eq ha PySem.F.entry_dict_eq ?_ (PySem.F.args_dict_eq_2 _ _)
  show wpAny _ _ (Builtin.Dict.dictSlotArgs "__eq__" ⟨[.ref a, .ref b], []⟩ >>= _) _ _ s
  refine wpAny_bind ?_
  unfold Builtin.Dict.dictSlotArgs
  refine wpAny_bind (wpAny_notOrdered_dict ha ?_)
  show wpAny _ _ (pure (Value.ref a, Value.ref b)) _ _ s
  refine wpAny_pure ?_
  refine wpAny_bind (wpAny_isInstance (T := "tuple") hb PySem.F.sub_tuple_dict ?_)
  simp only [Bool.not_false, if_true]
  first
    | exact wpAny_bind (wpAny_rule (wpAny_pure ⟨_, rfl, h⟩))
    | exact wpAny_bind (wpAny_rule (wpAny_bind (wpAny_pure (wpAny_pure ⟨_, rfl, h⟩))))
    | skip
end
section
variable {X : Cx}
def rEqDT (K : PySem.W.Frag) : R2 := fun x y H Q => ∃ a b ks xs, x = .ref a ∧ y = .ref b ∧ H a = some (.dK ks) ∧ SqT K H b xs ∧ Q (.bl false) H
theorem op_eqDT (hu : X.A.units < cLine) : OpR X (compareOp .Eq) (rEqDT X.K) := by
  intro pins s σ H x y v u Q I rx ry h
  obtain ⟨a, b, ks, xs, rfl, rfl, ha, hb, q⟩ := h
  cases (show v = Value.ref a from rx)
  cases (show u = Value.ref b from ry)
  obtain ⟨_, ya, va, ra, da⟩ := (show ObjOk X.prog X.w H s.heap a (.dK ks) from I.hok a _ ha)
  obtain ⟨its, r, p, _⟩ := I.tuple hb
  obtain ⟨o1, h1, c1⟩ := da.typeIs
  obtain ⟨o2, ho2, hc2, n2, hd2⟩ := id p
  have hne : a ≠ b := fun e => by
    subst e
    rw [h1] at ho2
    cases ho2
    rw [c1] at hc2
    exact absurd hc2 (by simp)
  obtain ⟨cls2, dd2, data2, sl2⟩ := o2
  simp only at hc2 hd2
  subst hc2 hd2
  show wpAny _ _ (richCompare .Eq _ _) _ _ _
  exact rc_eq_decline_or (k := false) ⟨_, h1, c1⟩ ⟨_, ho2, rfl⟩ (by decide) PySem.F.sub_tuple_dict PySem.F.slot_dict_eq PySem.F.slot_tuple_eq_refl
    (fun _ hq => dict_eq_declines ⟨_, h1, c1⟩ ⟨_, ho2, rfl⟩ _ hq)
    (fun _ hq => call_meets PySem.F.slot_tuple_eq_refl ⟨_, ho2, rfl⟩ PySem.F.entry_tuple_eq (PySem.F.args_tuple_eq_2 _ _) (tuple_eq_declines_dict b a its.toArray n2 dd2 sl2 o1 c1) ⟨ho2, h1, hq⟩)
    (fun _ hq => wpAny_isSame_ref_other (fun e => hne e) h1 ho2 (by rw [c1]; simp) hq) (.inr hu) ⟨.bl false, H, I, rfl, q⟩
end
end Lk
set_option Elab.async false
set_option linter.all false
set_option maxRecDepth 100000
set_option maxHeartbeats 1500000
set_option pp.maxSteps 1200
set_option pp.deepTerms false
namespace K6
open PySem PySem.Spec PyProof.Rows L2 Lk
theorem sqL_same' {K : PySem.W.Frag} {H H' : Hp} {a : Addr} {xs : List V} (s : Same H H') (h : SqL K H a xs) : SqL K H' a xs := h.imp (fun h => h.imp (s _ _) fun ⟨o, e⟩ => ⟨o, s _ _ e⟩) id
mutual
theorem Dp.same {K : PySem.W.Frag} {H H' : Hp} (s : Same H H') : ∀ {d : PyData} {v : V}, Dp K H v d → Dp K H' v d
  | .none, _, h => by cases h; exact .non
  | .bool b, _, h => by cases h; exact .bl b
  | .int i, _, h => by cases h; exact .int i
  | .str x, _, h => by cases h; exact .str x
  | .list ds, _, h => by
    cases h with
    | lst hs ha => exact .lst (sqL_same' s hs) (DpAll.same s ha)
  | .tuple ds, _, h => by
    cases h with
    | tup hs ha => exact .tup (sqT_same s hs) (DpAll.same s ha)
  | .dict _, _, h => by cases h
theorem DpAll.same {K : PySem.W.Frag} {H H' : Hp} (s : Same H H') : ∀ {ds : List PyData} {vs : List V}, DpAll K H vs ds → DpAll K H' vs ds
  | [], _, h => by cases h; exact .nil
  | d :: ds, _, h => by
    cases h with
    | cons h1 h2 => exact .cons (Dp.same s h1) (DpAll.same s h2)
end
/-- any value: read deep, or a dict -/
def VD (K : PySem.W.Frag) (H : Hp) (v : V) (d : PyData) : Prop := (Dp K H v d ∧ Nice 100000 30 d) ∨ ∃ a ks ps, v = .ref a ∧ H a = some (.dK ks) ∧ d = .dict ps ∧ DWk H ks ps ∧ (ps = [] ∨ ps = [(.str "a", .int 1)])
theorem VD.same {K : PySem.W.Frag} {H H' : Hp} {v : V} {d : PyData} (h : VD K H v d) (s : Same H H') : VD K H' v d := by
  rcases h with ⟨h, n⟩ | ⟨a, ks, ps, e, h, e2, hk, few⟩
  · exact .inl ⟨Dp.same s h, n⟩
  · exact .inr ⟨a, ks, ps, e, s _ _ h, e2, DWk.same s hk, few⟩
def isTupB : PyData → Bool
  | .tuple _ => true
  | _ => false
def isStrB : PyData → Bool
  | .str _ => true
  | _ => false
theorem sqT_ty {K : PySem.W.Frag} {H : Hp} {a : Addr} {xs : List V} (h : SqT K H a xs) : TyX K H (.ref a) (.type "tuple") := by
  rcases h with (h | ⟨o, h⟩) | ⟨o, its, n, h, c, _⟩
  · exact .base (.tup h)
  · exact .fTuple h
  · exact .kTuple h c
theorem sqL_ty {K : PySem.W.Frag} {H : Hp} {a : Addr} {xs : List V} (h : SqL K H a xs) : TyX K H (.ref a) (.type "list") := by
  rcases h with (h | ⟨o, h⟩) | ⟨o, its, n, h, c, _⟩
  · exact .base (.lst h)
  · exact .base (.frz h)
  · exact .kList h c
/-- isinstance(v, tuple), isinstance(v, str) -/
theorem vd_isi {K : PySem.W.Frag} {H : Hp} {v : V} {d : PyData} (h : VD K H v d) : ∃ t : Value, TyX K H v t ∧ PySem.W.kitOne K t (.type "tuple") = some (isTupB d) ∧ PySem.W.kitOne K t (.type "str") = some (isStrB d) := by
  rcases h with ⟨h, _⟩ | ⟨a, ks, ps, rfl, h, rfl, _⟩
  · cases h with
    | non => exact ⟨_, .base .non, rfl, rfl⟩
    | bl b => exact ⟨_, .base (.bl b), rfl, rfl⟩
    | int i => exact ⟨_, .base (.int i), rfl, rfl⟩
    | str x => exact ⟨_, .base (.str x), rfl, rfl⟩
    | lst hs _ => exact ⟨_, sqL_ty hs, rfl, rfl⟩
    | tup hs _ => exact ⟨_, sqT_ty hs, rfl, rfl⟩
  · exact ⟨_, .base (.dK h), rfl, rfl⟩
theorem vd_tup {K : PySem.W.Frag} {H : Hp} {v : V} {d : PyData} (h : VD K H v d) (e : isTupB d = true) : ∃ a xs ds, v = .ref a ∧ d = .tuple ds ∧ SqT K H a xs ∧ DpAll K H xs ds ∧ Nice 100000 30 (.tuple ds) := by
  rcases h with ⟨h, n⟩ | ⟨a, ks, ps, rfl, h, rfl, _⟩
  · cases h with
    | tup hs ha => exact ⟨_, _, _, rfl, rfl, hs, ha, n⟩
    | _ => cases e
  · cases e
theorem vd_str {K : PySem.W.Frag} {H : Hp} {v : V} {d : PyData} (h : VD K H v d) (e : isStrB d = true) : ∃ z, v = .str z ∧ d = .str z ∧ z.length ≤ 100000 ∧ PyData.strOk z = true := by
  rcases h with ⟨h, n⟩ | ⟨a, ks, ps, rfl, h, rfl, _⟩
  · cases h with
    | str x =>
      refine ⟨_, rfl, rfl, ?_, ?_⟩
      · have := n.wt
        simpa [PyData.weight, Str.length] using this
      · have := n.lay
        simpa [PyData.canLay0] using this
    | _ => cases e
  · cases e
theorem wtAll_len : ∀ ds : List PyData, ds.length ≤ PyData.weightAll ds
  | [] => by simp
  | d :: ds => by
    have := wtAll_len ds
    simp only [PyData.weightAll, List.length_cons]
    omega
theorem nice_tlen {n k : Nat} {ds : List PyData} (h : Nice n k (.tuple ds)) : ds.length ≤ n := by
  have := h.wt
  simp only [PyData.weight] at this
  exact Nat.le_trans (wtAll_len ds) this
theorem nice_in {n k : Nat} : ∀ {ds : List PyData}, PyData.canLayAll0 ds = true ∧ PyData.depthAll ds ≤ k ∧ PyData.weightAll ds ≤ n ∧ PyData.intsShortAll 13 ds = true ∧ PyData.showableAll ds = true → ∀ d ∈ ds, Nice n k d
  | [], _, d, h => by cases h
  | e :: ds, ⟨a1, a2, a3, a4, a5⟩, d, h => by
    simp only [PyData.canLayAll0, PyData.intsShortAll, PyData.showableAll, Bool.and_eq_true] at a1 a4 a5
    simp only [PyData.depthAll, PyData.weightAll] at a2 a3
    rcases List.mem_cons.mp h with rfl | h
    · exact ⟨a1.1, by omega, by omega, a4.1, a5.1⟩
    · exact nice_in ⟨a1.2, by omega, by omega, a4.2, a5.2⟩ d h
theorem nice_item {n k : Nat} {ds : List PyData} (h : Nice n k (.tuple ds)) : ∀ d ∈ ds, Nice n k d := by
  obtain ⟨a1, a2, a3, a4, a5⟩ := h
  simp only [PyData.canLay0] at a1
  simp only [PyData.depth] at a2
  simp only [PyData.weight] at a3
  simp only [PyData.intsShort] at a4
  simp only [PyData.showable] at a5
  exact nice_in ⟨a1, by omega, a3, a4, a5⟩
theorem DpAll.len {K : PySem.W.Frag} {H : Hp} : ∀ {xs : List V} {ds : List PyData}, DpAll K H xs ds → xs.length = ds.length
  | _, [], h => by cases h; rfl
  | _, d :: ds, h => by
    cases h with
    | cons _ t => rw [List.length_cons, List.length_cons, DpAll.len t]
theorem DpAll.get {K : PySem.W.Frag} {H : Hp} : ∀ {xs : List V} {ds : List PyData} {i : Nat} {d : PyData}, DpAll K H xs ds → ds[i]? = some d → ∃ v, xs[i]? = some v ∧ Dp K H v d
  | _, [], i, d, h, e => by simp at e
  | _, e :: ds, i, d, h, e2 => by
    cases h with
    | cons h1 t =>
      cases i with
      | zero =>
        simp at e2
        subst e2
        exact ⟨_, rfl, h1⟩
      | succ i =>
        obtain ⟨v, h3, h4⟩ := DpAll.get (i := i) t (by simpa using e2)
        exact ⟨v, by simpa using h3, h4⟩
/-- eqv with a text -/
theorem eqv_str (d : PyData) (z : Str) : PyData.eqv d (.str z) = true ↔ d = .str z := by
  cases d <;> simp [PyData.eqv]
theorem eqvAll_dstrs : ∀ (ds : List PyData) (zs : List Str), PyData.eqvAll ds (strsD zs) = true ↔ ds = strsD zs
  | [], [] => by simp [strsD, PyData.eqvAll]
  | [], z :: zs => by simp [strsD, PyData.eqvAll]
  | d :: ds, [] => by simp [strsD, PyData.eqvAll]
  | d :: ds, z :: zs => by
    have ih := eqvAll_dstrs ds zs
    unfold strsD at ih ⊢
    rw [List.map_cons, PyData.eqvAll, Bool.and_eq_true, eqv_str, ih, List.cons.injEq]
theorem eqvD_strs (d : PyData) (zs : List Str) : PyData.eqv d (.tuple (strsD zs)) = true ↔ d = .tuple (strsD zs) := by
  cases d with
  | tuple ds =>
    rw [PyData.eqv, eqvAll_dstrs]
    simp
  | _ => simp [PyData.eqv]
theorem nice_lot {zs r : List Str} (nk : NmOk zs) (s : r.Sublist zs) : Nice (6 * (8 + 1)) 1 (.tuple (strsD r)) := nice_strs (fun z hz => nk.ok z (s.subset hz)) (Nat.le_trans s.length_le nk.k6)
theorem dpAll_zip {K : PySem.W.Frag} {H : Hp} : ∀ {xs : List V} {ds : List PyData}, DpAll K H xs ds → ∃ zs : List (V × PyData), zs.map (·.1) = xs ∧ zs.map (·.2) = ds ∧ ∀ z ∈ zs, Dp K H z.1 z.2
  | _, [], h => by
    cases h
    exact ⟨[], rfl, rfl, fun z h => by cases h⟩
  | _, d :: ds, h => by
    cases h with
    | @cons v vs _ _ h1 t =>
      obtain ⟨zs, e1, e2, e3⟩ := dpAll_zip t
      refine ⟨(v, d) :: zs, by rw [List.map_cons, e1], by rw [List.map_cons, e2], fun z hz => ?_⟩
      rcases List.mem_cons.mp hz with rfl | hz
      · exact h1
      · exact e3 z hz
theorem all_strB : ∀ {ds : List PyData}, (∀ d ∈ ds, isStrB d = true) → ∃ zs, ds = strsD zs
  | [], _ => ⟨[], rfl⟩
  | d :: ds, h => by
    obtain ⟨zs, rfl⟩ := all_strB fun e he => h e (List.mem_cons_of_mem _ he)
    have := h d List.mem_cons_self
    cases d with
    | str z => exact ⟨z :: zs, rfl⟩
    | _ => cases this
theorem dp_strs_inv {K : PySem.W.Frag} {H : Hp} : ∀ {xs : List V} {zs : List Str}, DpAll K H xs (strsD zs) → xs = zs.map V.str
  | _, [], h => by
    cases h
    rfl
  | _, z :: zs, h => by
    cases h with
    | cons h1 t =>
      cases h1
      rw [dp_strs_inv t]
      rfl
theorem strsD_inj {a b : List Str} (h : strsD a = strsD b) : a = b := by
  unfold strsD at h
  exact (List.map_inj_right (fun x y e => PyData.str.inj e)).mp h
end K6
set_option Elab.async false
set_option linter.all false
set_option maxRecDepth 100000
namespace K6
open PySem PySem.Spec PyProof.Rows L2 Lk
structure At (K : PySem.W.Frag) (mg : Str → Option Value) (x : Str) (f : Addr) (fd : FuncData) (ps : List Str) : Prop where
  kp : PySem.W.keepIn K (.ref f) = true
  b : Binds K fd ps []
  m : mg x = some (.ref f)
theorem via {X G : Prop} (f : X → G) (x : X) : G := f x
/-- an own method of that class, found and kept -/
structure MethC (K : PySem.W.Frag) (C : Addr) (m : Str) (f : Addr) : Prop where
  at_ : PySem.W.findIn K (.ref C) m = some (some (.ref f))
  fn : PySem.W.isFn K (.ref f) = true
theorem sub_key {α β : Type} [DecidableEq β] (f : α → β) {ss zs : List α} (h : ss.Sublist zs) : (zs.map f).Nodup → zs.filter (fun z => decide (f z ∈ ss.map f)) = ss := by
  induction h with
  | slnil => intro _; rfl
  | cons a h ih =>
    intro nd
    have n2 := List.nodup_cons.mp nd
    rw [List.filter_cons_of_neg]
    · exact ih n2.2
    · intro m
      exact n2.1 ((h.map f).subset (by simpa using m))
  | @cons_cons l1 l2 a h ih =>
    intro nd
    have n2 := List.nodup_cons.mp nd
    rw [List.filter_cons_of_pos (by simp)]
    have e : l2.filter (fun z => decide (f z ∈ (a :: l1).map f)) = l2.filter (fun z => decide (f z ∈ l1.map f)) := List.filter_congr fun z hz => by
      have : f z ≠ f a := fun e => n2.1 (e ▸ List.mem_map.mpr ⟨z, hz, rfl⟩)
      simp [this]
    rw [e, ih n2.2]
def rLenS (K : PySem.W.Frag) : List V → Hp → VK → Prop := fun xs H Q => ∃ p ys, xs = [.ref p] ∧ (SqL K H p ys ∨ SqT K H p ys) ∧ Q (.int ys.length) H
theorem atN {xs : List V} {i : Nat} {v : V} (h : xs[i]? = some v) : atI xs (i : Int) = some v := atI_nat h
theorem fm_ifn (ss : List Str) : ∀ ps : List Str, ps.filterMap (fun x => if x ∈ ss then none else some (V.str x)) = (ps.filter fun x => !decide (x ∈ ss)).map V.str
  | [] => rfl
  | p :: ps => by
    have ih := fm_ifn ss ps
    by_cases h : p ∈ ss
    · simp [List.filterMap_cons, List.filter_cons, h, ih]
    · simp [List.filterMap_cons, List.filter_cons, h, ih]
end K6
set_option Elab.async false
set_option linter.all false
set_option maxRecDepth 100000
set_option maxHeartbeats 4000000
/-! Part K: ranges as values, walked. -/
namespace Lk
open PySem PySem.Spec PyProof.Rows L2
theorem cr_range1 {X : Cx} : CallR X (.type "range") (fun vs H Q => ∃ j, vs = [V.int j] ∧ ∀ p, H p = none → Q (.ref p) (upd H p (.rng 0 j))) := by
  intro pins s σ H vs us Q I r h
  obtain ⟨j, rfl, q⟩ := h
  obtain ⟨u1, rfl, rj⟩ := vals1 r
  obtain ⟨t, rfl⟩ := rj
  refine call_range_1 ⟨.ref s.heap.objs.size, upd H s.heap.objs.size (.rng 0 j), I.laid (fun b o e => Heap.get?_push_of_some _ e) (Nat.le_refl _) ?_, rfl, q _ (I.hok.fresh (Nat.le_refl _))⟩
  exact ⟨_, _, _, Heap.get?_push_size _ rfl⟩
def iRngV (tl : TE) : TI := fun σ H R => tl σ H fun x H1 => ∃ a lo hi, x = .ref a ∧ H1 a = some (.rng lo hi) ∧ (-(2 ^ 62) ≤ lo ∧ lo < 2 ^ 62 ∧ -(2 ^ 62) ≤ hi ∧ hi < 2 ^ 62) ∧ R (Itr lo (hi - lo).toNat) H1
theorem pi_rng {X : Cx} {tg l : Expr} {tl : TE} (hl : PE X l tl) : PI X tg l (iRngV tl) := by
  refine ⟨fun pins s σ H R I h => ?_⟩
  refine thn (hl.run pins s σ H _ I h) fun v s1 ⟨x, H1, I1, r1, q1⟩ => ?_
  obtain ⟨a, lo, hi, e, ha, ⟨b1, b2, b3, b4⟩, q⟩ := q1
  subst e
  cases r1
  obtain ⟨t, u, w', ho⟩ := I1.hok a _ ha
  refine wpAny_pyIter_range (r := a) (a := lo) (b := hi) (c := 1) (t := t) (u := u) (v := w') ho (small_one b1 b2 b3 b4) ?_
  refine ⟨s1.heap.objs.size, [s1.heap.objs.size], _, _, H1, rfl, I1.kept (t' := s1.toks) fun b o e => Heap.get?_push_of_some _ e, turn_range _ lo (hi - lo).toNat, ?_, fun b hb => ?_, q⟩
  · have e1 : lo + ((0 : Nat) : Int) * 1 = lo := by simp
    have e2 : (((hi - lo).toNat : Nat) : Int) - ((0 : Nat) : Int) = Builtin.Range.rangeSize lo hi 1 := by rw [rangeSize_one]; split <;> omega
    show IsRangeIter _ _ (lo + ((0 : Nat) : Int) * 1) ((((hi - lo).toNat : Nat) : Int) - ((0 : Nat) : Int)) 1
    rw [e1, e2]
    exact Heap.get?_push_size _ rfl
  · have e : b = s1.heap.objs.size := by simpa using hb
    subst e
    exact I1.fpOk (Nat.le_refl _) (I1.hok.fresh (Nat.le_refl _))
end Lk
set_option Elab.async false
set_option linter.all false
set_option maxRecDepth 100000
set_option maxHeartbeats 4000000
/-! Part P: dict(t), t a tuple of pairs. -/
namespace Lk
open PySem PySem.Spec PyProof.Rows L2
theorem pairs_list : ∀ {prs : List (L2.Key × Value)} {R : Nat → L2.Key × Value → Value → Prop} , (∀ (j : Nat) (q : L2.Key × Value), prs[j]? = some q → ∃ u, R j q u) → ∃ us : List Value, us.length = prs.length ∧ ∀ (j : Nat) (q : L2.Key × Value), prs[j]? = some q → ∃ u, us[j]? = some u ∧ R j q u
  | [], _, _ => ⟨[], rfl, fun j q e => by simp at e⟩
  | q :: prs, R, h => by
    obtain ⟨u, hu⟩ := h 0 q rfl
    obtain ⟨us, hl, hs⟩ := pairs_list (prs := prs) (R := fun j q u => R (j + 1) q u) fun j p e => h (j + 1) p (by simpa using e)
    refine ⟨u :: us, by simp [hl], fun j p e => ?_⟩
    cases j with
    | zero =>
      have e' : q = p := Option.some.inj e
      subst e'
      exact ⟨u, rfl, hu⟩
    | succ j =>
      obtain ⟨u', h1, h2⟩ := hs j p (by simpa using e)
      exact ⟨u', by simpa using h1, h2⟩
theorem call_dictTX {X : Cx} (hcalm : X.calm = true) : CallR X (.type "dict") (fun xs H Q => ∃ (a : Addr) (ps : List Addr) (kvs : List (L2.Key × V)), xs = [.ref a] ∧ TupX H a (ps.map V.ref) ∧ Paired (fun p kv => SqT X.K H p [kV kv.1, kv.2]) ps kvs ∧
    ∀ p, H p = none → Q (.ref p) (upd H p (.dK (mergeK [] kvs)))) := by
  intro pins s σ H xs us Q I r q
  obtain ⟨a, ps, kvs, ex, hq, hp, q⟩ := q
  subst ex
  obtain ⟨u, eu, rx⟩ := vals1 r
  subst eu
  cases rx
  obtain ⟨ob, ea, ec, ed⟩ := id hq
  obtain ⟨at_, hz, its, rv, tp⟩ := (show ObjOk X.prog X.w H s.heap a (.frz ob (.tup (ps.map V.ref))) from I.hok a _ ea)
  have ei := refs_at rv
  subst ei
  rw [List.length_map] at hz
  obtain ⟨prs, rel, hl, hpr⟩ := pairs_of I hp
  obtain ⟨vs, vl, hv⟩ := pairs_list (R := fun j q u => ∃ b, ps[j]? = some b ∧ IsTup s.heap b #[u, q.2] ∧ keyIs q.1 u = true) fun j q e => by
    obtain ⟨b, u, e1, e2, e3⟩ := hpr j q e
    exact ⟨u, b, e1, e2, e3⟩
  have zl : (vs.zip (prs.map (·.2))).length = ps.length := by rw [List.length_zip, List.length_map, vl, hl, Nat.min_self]
  have zat : ∀ j key v, (vs.zip (prs.map (·.2)))[j]? = some (key, v) → ∃ k b, prs[j]? = some (k, v) ∧ ps[j]? = some b ∧ IsTup s.heap b #[key, v] ∧ keyIs k key = true := fun j key v e => by
    obtain ⟨h1, h2⟩ := List.getElem?_zip_eq_some.mp e
    rw [List.getElem?_map] at h2
    cases z : prs[j]? with
    | none => rw [z] at h2; cases h2
    | some q =>
      rw [z] at h2
      have h9 : q.2 = v := Option.some.inj (show some q.2 = some v from h2)
      clear h2
      obtain ⟨u, a1, b, a2, a3, a4⟩ := hv j q z
      rw [a1] at h1
      obtain rfl : u = key := Option.some.inj h1
      subst h9
      exact ⟨q.1, b, z, a2, a3, a4⟩
  obtain ⟨o2, ho2, hc2, n2, hd2⟩ := id tp
  have oe : o2 = ob := by rw [at_] at ho2; exact (Option.some.inj ho2).symm
  subst oe
  have P := PairArg.tuple (prog := X.prog) (w := X.w) a (ps.map Value.ref).toArray (fun j => ps.getD j 0) (vs.zip (prs.map (·.2)))
  have OK : PlainSeq "tuple" s.heap a (ps.map Value.ref).toArray ∧ PairItems s.heap (ps.map Value.ref).toArray (fun j => ps.getD j 0) (vs.zip (prs.map (·.2))) := by
    refine ⟨⟨_, n2, at_, ec, ed, hd2⟩, by rw [zl]; simp, fun j k v e => ?_⟩
    obtain ⟨k', b, h1, h2, h3, h4⟩ := zat j k v e
    have hg : ps.getD j 0 = b := by rw [List.getD_eq_getElem?_getD, h2]; rfl
    refine ⟨by simp [h2], ?_⟩
    show PairAt s.heap (ps.getD j 0) k v
    rw [hg]
    exact .inl h3
  refine PySem.call_dict_pairs (knd := mixKind X.prog X.w) (kvs := prs) P (I.ok.hd hcalm) OK ⟨by rw [zl, hl], fun i key v e => ?_⟩ (by rw [zl]; exact hz) fun h' tk hd' k => ?_
  · obtain ⟨k', b, h1, _, _, h4⟩ := zat i key v e
    exact ⟨k', h1, h4⟩
  · have hm : (s.heap.objs.size == sysModules) = false := beq_eq_false_iff_ne.mpr (Nat.ne_of_gt I.big)
    have hlen : (mergeK [] kvs).length ≤ sizeLine := by
      refine Nat.le_trans (length_mergeK kvs []) ?_
      rw [List.length_nil, Nat.zero_add, rel.length, hl]
      exact hz
    exact ⟨.ref s.heap.objs.size, upd H s.heap.objs.size (.dK (mergeK [] kvs)), I.laid (t' := tk) (fun b o e => k b o (by simp) e) (Nat.le_refl _) (show ObjOk X.prog X.w _ _ _ (.dK (mergeK [] kvs)) from ⟨hlen, hm, merged [] prs, KV.merge rel .nil, hd'⟩), rfl, q _ (I.hok.fresh (Nat.le_refl _))⟩
end Lk
set_option Elab.async false
set_option linter.all false
set_option maxRecDepth 100000
set_option maxHeartbeats 1000000
/-! Part Q: sorted of pairs of a length and the list, or tuple, of ints that has it. -/
namespace Lk
open PySem PySem.Spec PyProof.Rows L2
/-- a list (or a tuple) of these ints -/
def SeqI (tup : Bool) (h : Heap) (b : Addr) (ns : List Int) : Prop := ∃ items : Array Value, (if tup = true then h.IsTuple b items else h.IsList b items) ∧ IntsAre items.toList ns
/-- the pair of its length and it -/
def IsLen (tup : Bool) (h : Heap) (v : Value) (ns : List Int) : Prop := ∃ a o t b m, v = .ref a ∧ h.get? a = some o ∧ o.cls = .type "tuple" ∧ o.data = .seq #[.int (ns.length : Int) t, .ref b] m ∧ SeqI tup h b ns
theorem SeqI.keeps {tup : Bool} {h h' : Heap} {b : Addr} {ns : List Int} (x : SeqI tup h b ns) (k : ∀ o, h.get? b = some o → h'.get? b = some o) : SeqI tup h' b ns := by
  obtain ⟨items, q, r⟩ := x
  refine ⟨items, ?_, r⟩
  cases tup with
  | true =>
    obtain ⟨o, e, y⟩ := q
    exact ⟨o, k o e, y⟩
  | false =>
    obtain ⟨o, e, y⟩ := q
    exact ⟨o, k o e, y⟩
def ltLen (ns ms : List Int) : Bool := if ns.length = ms.length then HT.lexLt ns ms else decide (ns.length < ms.length)
theorem lexLt_first : ∀ (ns ms : List Int) (h : ns.length = ms.length), SeqAt.firstLt (fun j => ns.getD j 0 == ms.getD j 0) (fun j => decide (ns.getD j 0 < ms.getD j 0)) false (List.range ns.length) = HT.lexLt ns ms := by
  have go : ∀ (ns ms : List Int) (pre1 pre2 : List Int), ns.length = ms.length → pre1.length = pre2.length → SeqAt.firstLt (fun j => (pre1 ++ ns).getD j 0 == (pre2 ++ ms).getD j 0) (fun j => decide ((pre1 ++ ns).getD j 0 < (pre2 ++ ms).getD j 0)) false (List.range' pre1.length ns.length) = HT.lexLt ns ms := by
    intro ns
    induction ns with
    | nil =>
      intro ms p1 p2 h hp
      match ms, h with
      | [], _ => rfl
    | cons x xs ih =>
      intro ms p1 p2 h hp
      match ms, h with
      | y :: ys, h =>
        have hx : (p1 ++ x :: xs).getD p1.length 0 = x := by simp [List.getD_eq_getElem?_getD]
        have hy : (p2 ++ y :: ys).getD p1.length 0 = y := by rw [hp]; simp [List.getD_eq_getElem?_getD]
        have ih := ih ys (p1 ++ [x]) (p2 ++ [y]) (Nat.succ.inj h) (by simp [hp])
        rw [List.append_assoc, List.append_assoc] at ih
        rw [List.length_cons, List.range'_succ]
        by_cases e : x = y
        · rw [SeqAt.firstLt_yes (by rw [hx, hy, e]; simp), HT.lexLt_cons, if_pos e, ← ih, List.length_append]
          rfl
        · rw [SeqAt.firstLt_no (by rw [hx, hy]; simpa using e), HT.lexLt_cons, if_neg e, hx, hy]
  intro ns ms h
  have := go ns ms [] [] h rfl
  rw [List.range_eq_range']
  exact this
theorem all_eq : ∀ (ns ms : List Int), ns.length = ms.length → (List.range ns.length).all (fun j => ns.getD j 0 == ms.getD j 0) = decide (ns = ms) := fun ns ms h => by
  rw [Bool.eq_iff_iff, List.all_eq_true, decide_eq_true_iff]
  constructor
  · intro g
    apply List.ext_getElem?
    intro i
    by_cases hi : i < ns.length
    · have := g i (List.mem_range.mpr hi)
      have this : ns.getD i 0 = ms.getD i 0 := by simpa using this
      rw [List.getD_eq_getElem?_getD, List.getD_eq_getElem?_getD, List.getElem?_eq_getElem hi, List.getElem?_eq_getElem (by omega)] at this
      rw [List.getElem?_eq_getElem hi, List.getElem?_eq_getElem (by omega)]
      exact congrArg some this
    · rw [List.getElem?_eq_none (by omega), List.getElem?_eq_none (by omega)]
  · intro e i _
    rw [e]
    simp
theorem ints_getL : ∀ {l : List Value} {ns : List Int} {j : Nat}, IntsAre l ns → (hj : j < l.length) → ∃ t, l[j] = .int (ns.getD j 0) t
  | _, _, _, .nil, hj => absurd hj (Nat.not_lt_zero _)
  | _, _, 0, .cons n t r, hj => ⟨t, rfl⟩
  | _, _, j + 1, .cons n t r, hj => by
    obtain ⟨t', e⟩ := ints_getL r (Nat.lt_of_succ_lt_succ hj)
    exact ⟨t', by simpa using e⟩
theorem ints_get {its : Array Value} {ns : List Int} (h : IntsAre its.toList ns) {j : Nat} (hj : j < its.size) : ∃ t, its[j] = .int (ns.getD j 0) t := by
  obtain ⟨l⟩ := its
  exact ints_getL (l := l) h hj
theorem ints_len : ∀ {l : List Value} {ns : List Int}, IntsAre l ns → l.length = ns.length
  | _, _, .nil => rfl
  | _, _, .cons n t r => by rw [List.length_cons, List.length_cons, ints_len r]
theorem ints_size {its : Array Value} {ns : List Int} (h : IntsAre its.toList ns) : its.size = ns.length := by
  rw [← ints_len h, Array.length_toList]
theorem ints_one {l : List Value} {ns ms : List Int} (h : IntsAre l ns) (g : IntsAre l ms) : ns = ms := (SrtO.iv_ints h).symm.trans (SrtO.iv_ints g)
section
variable {A : Around} {s : Shared}
theorem seq_eq {tup : Bool} {l b : Addr} {ns ms : List Int} (hl : SeqI tup s.heap l ns) (hb : SeqI tup s.heap b ms) (he : ns.length = ms.length) (hu : A.units < cLine) : SeqAt.EqAt A s (.ref l) (.ref b) (decide (ns = ms)) := by
  obtain ⟨i1, q1, r1⟩ := hl
  obtain ⟨i2, q2, r2⟩ := hb
  have z1 := ints_size r1
  have z2 := ints_size r2
  have sz : i1.size = i2.size := by rw [z1, z2, he]
  have ee : ∀ j (h1 : j < i1.size) (h2 : j < i2.size), SeqAt.EqAt A.in1 s i1[j] i2[j] ((fun j => ns.getD j 0 == ms.getD j 0) j) := fun j h1 h2 => by
    obtain ⟨t, e1⟩ := ints_get r1 h1
    obtain ⟨u, e2⟩ := ints_get r2 h2
    rw [e1, e2]
    exact SeqAt.EqAt.int_int _ _ _ _
  by_cases lb : l = b
  · subst lb
    have : ns = ms := by
      cases tup with
      | true =>
        obtain ⟨o, e, _, n, d⟩ := q1
        obtain ⟨o2, e2, _, n2, d2⟩ := q2
        rw [e] at e2
        cases e2
        rw [d] at d2
        cases d2
        exact ints_one r1 r2
      | false =>
        obtain ⟨o, e, _, n, d⟩ := q1
        obtain ⟨o2, e2, _, n2, d2⟩ := q2
        rw [e] at e2
        cases e2
        rw [d] at d2
        cases d2
        exact ints_one r1 r2
    rw [decide_eq_true this]
    exact SeqAt.EqAt.same _
  · refine SeqAt.EqAt.of_refs lb ?_
    rw [← all_eq ns ms he]
    cases tup with
    | true =>
      have := SeqAt.RcAt.tuples q1 q2 hu ee
      rw [← sz, Nat.min_self, z1] at this
      simpa using this
    | false =>
      have := SeqAt.RcAt.lists q1 q2 sz hu ee
      rw [z1] at this
      exact this
theorem seq_lt {tup : Bool} {l b : Addr} {ns ms : List Int} (hl : SeqI tup s.heap l ns) (hb : SeqI tup s.heap b ms) (he : ns.length = ms.length) (hu : A.units < cLine) : SeqAt.RcLt A s (.ref l) (.ref b) (HT.lexLt ns ms) := by
  obtain ⟨i1, q1, r1⟩ := hl
  obtain ⟨i2, q2, r2⟩ := hb
  have z1 := ints_size r1
  have z2 := ints_size r2
  have sz : i1.size = i2.size := by rw [z1, z2, he]
  have ee : ∀ j (h1 : j < i1.size) (h2 : j < i2.size), SeqAt.EqAt A.in1 s i1[j] i2[j] ((fun j => ns.getD j 0 == ms.getD j 0) j) := fun j h1 h2 => by
    obtain ⟨t, e1⟩ := ints_get r1 h1
    obtain ⟨u, e2⟩ := ints_get r2 h2
    rw [e1, e2]
    exact SeqAt.EqAt.int_int _ _ _ _
  have rr : ∀ j (h1 : j < i1.size) (h2 : j < i2.size), (fun j => ns.getD j 0 == ms.getD j 0) j = false → SeqAt.RcLt A.in1 s i1[j] i2[j] ((fun j => decide (ns.getD j 0 < ms.getD j 0)) j) := fun j h1 h2 _ => by
    obtain ⟨t, e1⟩ := ints_get r1 h1
    obtain ⟨u, e2⟩ := ints_get r2 h2
    rw [e1, e2]
    exact fun prog w E Q q => PyProof.Rows.lt_int q
  have fin : decide (i1.size < i2.size) = false := decide_eq_false (by omega)
  cases tup with
  | true =>
    have := SeqAt.RcLt.tuples q1 q2 hu ee rr
    rw [fin, ← sz, Nat.min_self, z1, lexLt_first ns ms he] at this
    exact this
  | false =>
    have := SeqAt.RcLt.lists q1 q2 hu ee rr
    rw [fin, ← sz, Nat.min_self, z1, lexLt_first ns ms he] at this
    exact this
end
/-! ### the order -/
theorem lexLt_iff : ∀ {ns ms : List Int}, HT.lexLt ns ms = true → HT.lexLt ms ns = false
  | [], [], h => by cases h
  | [], _ :: _, _ => rfl
  | _ :: _, [], h => by cases h
  | x :: xs, y :: ys, h => by
    rw [HT.lexLt_cons] at h ⊢
    by_cases e : x = y
    · rw [if_pos e] at h
      rw [if_pos e.symm]
      exact lexLt_iff h
    · rw [if_neg e] at h
      rw [if_neg (fun z => e z.symm)]
      have := of_decide_eq_true h
      exact decide_eq_false (by omega)
theorem lexLt_tr : ∀ {xs ys zs : List Int}, HT.lexLt ys xs = false → HT.lexLt zs ys = false → HT.lexLt zs xs = false
  | [], _, [], _, _ => rfl
  | [], _, _ :: _, _, _ => rfl
  | _ :: _, [], _, h, _ => by cases h
  | _ :: _, _ :: _, [], _, h => by cases h
  | x :: xs, y :: ys, z :: zs, h1, h2 => by
    rw [HT.lexLt_cons] at h1 h2 ⊢
    by_cases e1 : y = x
    · rw [if_pos e1] at h1
      by_cases e2 : z = y
      · rw [if_pos e2] at h2
        rw [if_pos (e2.trans e1)]
        exact lexLt_tr h1 h2
      · rw [if_neg e2] at h2
        have := of_decide_eq_false h2
        rw [if_neg (fun q => e2 (q.trans e1.symm))]
        exact decide_eq_false (by omega)
    · rw [if_neg e1] at h1
      have g1 := of_decide_eq_false h1
      by_cases e2 : z = y
      · rw [if_neg (fun q => e1 (e2.symm.trans q))]
        exact decide_eq_false (by omega)
      · rw [if_neg e2] at h2
        have g2 := of_decide_eq_false h2
        by_cases e3 : z = x
        · exact absurd (show y = x by omega) e1
        · rw [if_neg e3]
          exact decide_eq_false (by omega)
theorem swo_len (k : Value → List Int) : SrtO.Swo fun v u => ltLen (k v) (k u) := by
  refine ⟨fun x y h => ?_, fun x y z h1 h2 => ?_⟩
  · unfold ltLen at h ⊢
    by_cases e : (k x).length = (k y).length
    · rw [if_pos e] at h
      rw [if_pos e.symm]
      exact lexLt_iff h
    · rw [if_neg e] at h
      rw [if_neg (fun q => e q.symm)]
      have := of_decide_eq_true h
      exact decide_eq_false (by omega)
  · unfold ltLen at h1 h2 ⊢
    by_cases e1 : (k y).length = (k x).length
    · rw [if_pos e1] at h1
      by_cases e2 : (k z).length = (k y).length
      · rw [if_pos e2] at h2
        rw [if_pos (e2.trans e1)]
        exact lexLt_tr h1 h2
      · rw [if_neg e2] at h2
        have := of_decide_eq_false h2
        rw [if_neg (fun q => e2 (q.trans e1.symm))]
        exact decide_eq_false (by omega)
    · rw [if_neg e1] at h1
      have g1 := of_decide_eq_false h1
      by_cases e2 : (k z).length = (k y).length
      · rw [if_neg (fun q => e1 (e2.symm.trans q))]
        exact decide_eq_false (by omega)
      · rw [if_neg e2] at h2
        have g2 := of_decide_eq_false h2
        rw [if_neg (by omega)]
        exact decide_eq_false (by omega)
section
variable {prog : Program} {w : World} {A : Around} {s : Shared}
theorem len_cmp {tup : Bool} {vs : List Value} {k : Value → List Int} (hu : A.units < cLine) (hp : ∀ v ∈ vs, IsLen tup s.heap v (k v)) : SrtO.Cmp prog w A s (tuples' true) (fun p => p.1 ∈ vs) (SrtO.lt2 fun v u => ltLen (k v) (k u)) := by
  intro p q hm hm'
  have h1 := hp _ hm
  have h2 := hp _ hm'
  show wpAny (model prog w) A (keyLt' (tuples' true) p.1 q.1) (fun r s' => s' = s ∧ r = ltLen (k p.1) (k q.1)) (fun _ _ => False) s
  unfold ltLen
  generalize k p.1 = x at h1 ⊢
  generalize k q.1 = y at h2 ⊢
  obtain ⟨a, o, t, b, n, e, ho, hc, hd, hb⟩ := h1
  obtain ⟨a', o', t', b', n', e', ho', hc', hd', hb'⟩ := h2
  rw [e, e']
  refine PySem.W.kat_lt ho hd ho' hd' ?_
  show PySem.W.KatLex prog w A true (decide (2 < 2)) _ [(.int (x.length : Int) t, .int (y.length : Int) t'), (.ref b, .ref b')] 0 s
  refine PySem.W.kat_cons (SeqAt.EqAt.int_int _ t _ t' prog w _ _ ?_)
  refine PySem.W.kat_go (fun e1 => ?_) (fun e1 => ?_)
  · have ex : x.length = y.length := by
      have : (x.length : Int) = (y.length : Int) := by simpa using e1
      omega
    rw [if_pos ex]
    refine PySem.W.kat_yes (PySem.W.kat_cons (seq_eq hb hb' ex hu prog w _ _ ?_))
    refine PySem.W.kat_go (fun e2 => ?_) (fun e2 => ?_)
    · have ey : x = y := of_decide_eq_true e2
      have irr : HT.lexLt x y = false := by
        rw [ey]
        cases h : HT.lexLt y y with
        | false => rfl
        | true => exact h.symm.trans (lexLt_iff h)
      exact PySem.W.kat_yes (PySem.W.kat_nil ⟨rfl, irr.symm⟩)
    · refine PySem.W.kat_no (PySem.W.kat_one _ _ (seq_lt hb hb' ex hu prog w _ _ ?_))
      exact (show s = s ∧ HT.lexLt x y = HT.lexLt x y from ⟨rfl, rfl⟩)
  · have ex : ¬ x.length = y.length := fun z => by
      rw [z] at e1
      simp at e1
    rw [if_neg ex]
    refine PySem.W.kat_no (oneLt_int ⟨rfl, ?_⟩)
    rw [Bool.eq_iff_iff, decide_eq_true_iff, decide_eq_true_iff]
    omega
theorem IsLen.keeps {tup : Bool} {h h' : Heap} {v : Value} {ns : List Int} (p : IsLen tup h v ns) (k : ∀ b o, h.get? b = some o → h'.get? b = some o) : IsLen tup h' v ns := by
  obtain ⟨a, o, t, b, m, e, ho, hc, hd, hb⟩ := p
  exact ⟨a, o, t, b, m, e, k _ _ ho, hc, hd, hb.keeps fun o e => k _ _ e⟩
theorem len_firsts {tup : Bool} {h : Heap} : ∀ {vs : List Value}, (∀ v ∈ vs, ∃ ns, IsLen tup h v ns) → ∃ fs : List Value, PySem.W.KatTups h vs fs ∧ fs.length = vs.length ∧ ∀ f ∈ fs, ∃ x t, f = Value.int x t
  | [], _ => ⟨[], PySem.W.KatTups.nil, rfl, fun _ hm => by simp at hm⟩
  | v :: vs, hp => by
    obtain ⟨fs, h1, h2, h3⟩ := len_firsts (vs := vs) fun v' hm => hp v' (List.mem_cons_of_mem _ hm)
    obtain ⟨ns, a, o, t, b, m, e, ho, hc, hd, hb⟩ := hp v List.mem_cons_self
    refine ⟨.int (ns.length : Int) t :: fs, ⟨⟨a, o, _, m, e, ho, hc, hd, rfl⟩, h1⟩, by rw [List.length_cons, List.length_cons, h2], fun f hf => ?_⟩
    rcases List.mem_cons.mp hf with rfl | hf
    · exact ⟨_, _, rfl⟩
    · exact h3 f hf
/-- sorted(l) of such pairs -/
theorem sorted_lens {tup : Bool} {l : Addr} {vs : List Value} {k : Value → List Int} {E : Value → Shared → Prop} {Q : Value → Shared → Prop} (hu : A.in1.in1.units < cLine) (hl : s.heap.IsList l vs.toArray) (hz : vs.length ≤ sizeLine) (hp : ∀ v ∈ vs, IsLen tup s.heap v (k v))
    (h : ∀ (h' : Heap) (d : Addr) (out : List Value), SrtO.Srtd (fun v u => ltLen (k v) (k u)) out → SrtO.Stb (fun v u => ltLen (k v) (k u)) out vs → (∀ b o, s.heap.get? b = some o → h'.get? b = some o) → s.heap.objs.size ≤ d → (∃ n, h'.get? d = some (seqObj "list" out.toArray n)) → Q (.ref d) { s with heap := h' }) :
    wpAny (model prog w) A (call (.builtin "sorted") [.ref l]) Q E s := by
  refine SrtO.sorted_ord (swo_len k) hl hz (fun h2 h₁ a ha kk => ?_) fun out hs hb => ?_
  · intro h' keep
    have hp' : ∀ v ∈ vs, IsLen tup h' v (k v) := fun v hm => (hp v hm).keeps fun b o e => keep b o (kk b o e).1 (kk b o e).2
    obtain ⟨fs, g1, g2, g3⟩ := len_firsts fun v hm => ⟨_, hp' v hm⟩
    refine ⟨tuples' true, fun Q E hq => ?_, len_cmp hu hp'⟩
    refine PySem.W.kat_kind (T := .type "int") g1 (by omega) (fun f hm => ?_) (by rfl) ?_
    · obtain ⟨x, t, rfl⟩ := g3 f hm
      exact PySem.W.Looks.now
    · have e : (Value.type "int" != Value.type "tuple") = true := by first | decide +kernel | rfl | decide
      rw [e]
      exact hq
  · exact h _ _ out hs hb (fun b o e => sortedAll_old e) (Nat.le_succ _) (sortedAll_at s.heap vs out.toArray)
end
/-- sorted(xs), xs a list of such pairs (k says which): a new list, sorted, equal ones in their order -/
def rSortLen (K : PySem.W.Frag) (tup : Bool) : List V → Hp → VK → Prop := fun vs H Q => ∃ (a : Addr) (xs : List V) (k : V → List Int), vs = [V.ref a] ∧ SqL K H a xs ∧
  (∀ x ∈ xs, ∃ t b, x = V.ref t ∧ H t = some (.tup [.int ((k x).length : Int), .ref b]) ∧ (if tup = true then SqT K H b ((k x).map V.int) else SqL K H b ((k x).map V.int))) ∧
  ∀ ys p, SrtO.Srtd (fun x y => ltLen (k x) (k y)) ys → ys.Perm xs → H p = none → Q (.ref p) (upd H p (.lst ys))
theorem cr_sortedLen {X : Cx} {tup : Bool} (hu : X.A.units + 8 < cLine) : CallR X (.builtin "sorted") (rSortLen X.K tup) := by
  intro pins s σ H vs us Q I r h
  obtain ⟨a, xs, k, rfl, hs, hx, q⟩ := h
  obtain ⟨its, rv, hl, hz⟩ := I.list hs
  obtain ⟨u, rfl, ru⟩ := vals1 r
  obtain rfl : u = Value.ref a := ru
  obtain ⟨e1, e2⟩ := refs_back rv fun x m => by
    obtain ⟨t, b, e, _⟩ := hx x m
    exact ⟨t, e⟩
  refine sorted_lens (tup := tup) (k := fun u => k (backV u)) (by show X.A.units + 1 + 1 < cLine; omega) hl.isList (by rw [← rv.length]; exact hz) (fun v hv => ?_) fun h' d out h1 h2 kp hd hn => ?_
  · obtain ⟨t, rfl⟩ := e2 v hv
    have hm : V.ref t ∈ xs := by rw [e1]; exact List.mem_map.mpr ⟨_, hv, rfl⟩
    obtain ⟨t', b, e, ht, hb⟩ := hx _ hm
    cases e
    obtain ⟨_, its2, r2, o, ho, hc, n, hd⟩ := I.hok _ _ ht
    obtain ⟨u1, u2, rfl, ri, rj⟩ := vals2 r2
    obtain ⟨t1, rfl⟩ := ri
    obtain rfl : u2 = Value.ref b := rj
    refine ⟨t, o, t1, b, n, rfl, ho, hc, hd, ?_⟩
    cases tup with
    | true =>
      obtain ⟨its3, r3, p3, _⟩ := I.tuple hb
      exact ⟨_, p3, r3.ints⟩
    | false =>
      obtain ⟨its3, r3, p3, _⟩ := I.list hb
      exact ⟨_, p3.isList, r3.ints⟩
  · have h3 : ∀ u ∈ out, ∃ a, u = Value.ref a := fun u hu => e2 u (h2.perm.mem_iff.mp hu)
    obtain ⟨n, hn⟩ := hn
    have pm : (out.map backV).Perm xs := by
      rw [e1]
      exact h2.perm.map backV
    refine ⟨.ref d, upd H d (.lst (out.map backV)), I.laid (t' := s.toks) kp hd ⟨?_, out, n, L2.vals_back h3, hn⟩, rfl, q _ d (SrtO.srtd_map (lt := fun x y => ltLen (k x) (k y)) (f := backV) h1) pm (I.hok.fresh hd)⟩
    rw [pm.length_eq]
    exact hz
end Lk
set_option Elab.async false
set_option linter.all false
set_option maxRecDepth 100000
set_option maxHeartbeats 4000000
set_option pp.maxSteps 1200
set_option pp.deepTerms false
namespace K6
open PySem PySem.Spec PyProof.Rows L2 Lk
abbrev sCircLen : Stmt := inClass (top 9) 1
abbrev sCircIn : Stmt := inClass (top 9) 2
abbrev sLots : Stmt := top 10
/-! ### pure: the places of a code -/
/-- the places that are in a code -/
def rowC (n c : Nat) : List Nat := (List.range n).filter fun p => decide (c / 2 ^ p % 2 = 1)
def rowI (n c : Nat) : List Int := (rowC n c).map fun p : Nat => (p : Int)
theorem rowC_len (n c : Nat) : (rowC n c).length ≤ n := by
  have := List.length_filter_le (fun p => decide (c / 2 ^ p % 2 = 1)) (List.range n)
  rw [List.length_range] at this
  exact this
theorem rowC_lt {n c p : Nat} (h : p ∈ rowC n c) : p < n := List.mem_range.mp (List.mem_filter.mp h).1
theorem rowC_sub (n c : Nat) : (rowC n c).Sublist (List.range n) := List.filter_sublist
theorem rowC_congr {n c d : Nat} (h : ∀ p, p < n → c / 2 ^ p % 2 = d / 2 ^ p % 2) : rowC n c = rowC n d := by
  refine List.filter_congr fun p hp => ?_
  rw [h p (List.mem_range.mp hp)]
/-- each choice of places has a code -/
theorem rowC_has : ∀ (n : Nat) (q : Nat → Bool), ∃ c, c < 2 ^ n ∧ ∀ p, p < n → (c / 2 ^ p % 2 = 1 ↔ q p = true)
  | 0, _ => ⟨0, by decide, fun p h => absurd h (Nat.not_lt_zero p)⟩
  | n + 1, q => by
    obtain ⟨c, hc, h⟩ := rowC_has n q
    cases hq : q n with
    | false =>
      refine ⟨c, Nat.lt_of_lt_of_le hc (Nat.pow_le_pow_right (by decide) (Nat.le_succ n)), fun p hp => ?_⟩
      rcases Nat.lt_or_ge p n with h1 | h1
      · exact h p h1
      · have : p = n := by omega
        subst this
        rw [Nat.div_eq_of_lt hc, hq]
        decide
    | true =>
      refine ⟨c + 2 ^ n, by rw [Nat.pow_succ]; omega, fun p hp => ?_⟩
      rcases Nat.lt_or_ge p n with h1 | h1
      · have e : 2 ^ n = 2 ^ p * (2 * 2 ^ (n - p - 1)) := by
          rw [← Nat.pow_succ', ← Nat.pow_add]
          congr 1
          omega
        rw [e, Nat.add_mul_div_left _ _ (Nat.pow_pos (by decide)), Nat.add_mul_mod_self_left]
        exact h p h1
      · have : p = n := by omega
        subst this
        rw [Nat.add_div_right _ (Nat.pow_pos (by decide)), Nat.div_eq_of_lt hc, hq]
        decide
/-- the names at these places -/
def namesAt (zs : List Str) (q : List Nat) : List Str := q.map fun p => zs.getD p Str.empty
theorem namesAt_sub (zs : List Str) (n c : Nat) (h : n = zs.length) : (namesAt zs (rowC n c)).Sublist zs := by
  subst h
  have e : (List.range zs.length).map (fun p => zs.getD p Str.empty) = zs := by
    refine List.ext_getElem (by simp) fun i h1 h2 => ?_
    simp [List.getElem?_eq_getElem h2]
  have := (rowC_sub zs.length c).map fun p => zs.getD p Str.empty
  rw [e] at this
  exact this
theorem namesAt_has {zs ys : List Str} (nd : zs.Nodup) (h : ys.Sublist zs) : ∃ c, c < 2 ^ zs.length ∧ namesAt zs (rowC zs.length c) = ys := by
  obtain ⟨c, hc, hp⟩ := rowC_has zs.length fun p => decide (zs.getD p Str.empty ∈ ys)
  refine ⟨c, hc, ?_⟩
  have e : (List.range zs.length).map (fun p => zs.getD p Str.empty) = zs := by
    refine List.ext_getElem (by simp) fun i h1 h2 => ?_
    simp [List.getElem?_eq_getElem h2]
  have f : namesAt zs (rowC zs.length c) = zs.filter fun z => decide (z ∈ ys) := by
    unfold namesAt rowC
    have g : ((List.range zs.length).filter fun p => decide (c / 2 ^ p % 2 = 1)) = (List.range zs.length).filter ((fun z => decide (z ∈ ys)) ∘ fun p => zs.getD p Str.empty) := by
      refine List.filter_congr fun p hp' => ?_
      have := hp p (List.mem_range.mp hp')
      rw [Bool.eq_iff_iff, decide_eq_true_iff, this]
      rfl
    rw [g, ← List.filter_map, e]
  have k := sub_key (fun z : Str => z) h (by rw [List.map_id']; exact nd)
  rw [f]
  rw [List.map_id'] at k
  exact k
/-! ### walks of ranges as values -/
theorem walk_rangeV {lo : Int} {n : Nat} : Walk (Itr lo n) ((List.range n).map fun i => V.int (lo + (i : Nat))).length (fun _ => True) (YAt ((List.range n).map fun i => V.int (lo + (i : Nat)))) := by
  have e : ((List.range n).map fun i => V.int (lo + (i : Nat))).length = n := by rw [List.length_map, List.length_range]
  rw [e]
  refine Walk.mono (walk_range (lo := lo) (n := n)) (fun _ h => h) ?_
  rintro i H x H' hi _ ⟨h1, h2⟩
  refine ⟨h1, ?_⟩
  rw [List.getElem?_map, List.getElem?_range hi, h2]
  rfl
def rShrN : R2 := fun x y H Q => ∃ (i : Int) (k : Nat), x = .int i ∧ y = .int (k : Int) ∧ Q (.int (i / 2 ^ k)) H
def rOdd1 : R2 := fun x y H Q => ∃ n : Nat, x = .int (n : Int) ∧ y = .int 1 ∧ Q (.int ((n % 2 : Nat) : Int)) H
def tBitT (K : PySem.W.Frag) (i j : Nat) : TT := fun σ H Q => tOp rOdd1 (tOp rShrN (tVar i) (tVar j)) (tC (.int 1)) σ H fun x H' => ∃ k, TruV K x H' k ∧ Q k H'
def asgScope (st : Stmt) (i : Nat) : Scope := match (defBody st).getD i (.Pass ⟨0, 0, 0, 0⟩) with
  | .Assign _ (.ListComp _ _ sc _) _ => sc
  | _ => defScope st
def retScope (st : Stmt) (i : Nat) : Scope := match (defBody st).getD i (.Pass ⟨0, 0, 0, 0⟩) with
  | .Return (some (.Call _ [.ListComp _ _ sc _] _ _)) _ => sc
  | _ => defScope st
theorem fm_row (n c : Nat) : ∀ ps : List Nat, (ps.filterMap fun p => if c / 2 ^ p % 2 = 1 then some (V.int ((0 : Int) + (p : Nat))) else none) = ((ps.filter fun p => decide (c / 2 ^ p % 2 = 1)).map fun p : Nat => (p : Int)).map V.int
  | [] => rfl
  | p :: ps => by
    have ih := fm_row n c ps
    by_cases h : c / 2 ^ p % 2 = 1
    · rw [List.filterMap_cons, if_pos h, List.filter_cons_of_pos (by simpa using h), List.map_cons, List.map_cons, ih, Int.zero_add]
    · rw [List.filterMap_cons, if_neg h, List.filter_cons_of_neg (by simpa using h), ih]
theorem fm_at (zs : List Str) : ∀ q : List Nat, ((q.map fun p : Nat => (p : Int)).filterMap fun p => some (V.str (zs.getD p.toNat Str.empty))) = (namesAt zs q).map V.str
  | [] => rfl
  | p :: q => by
    have ih := fm_at zs q
    rw [List.map_cons, List.filterMap_cons]
    show V.str _ :: _ = V.str _ :: _
    rw [ih, Int.toNat_natCast]
    rfl
section
variable {P : Program} {w : World} {K : PySem.W.Frag} {mg : Str → Option Value} {base : Heap} {f : Addr} {fd : FuncData}
/-! ### Circle.__len__ -/
def spCircLen (K : PySem.W.Frag) (C : Addr) : Sp := fun vs H Q _ => ∃ (c : Addr) (zs : List Str), vs = [.ref c] ∧ CircAt K H C c zs ∧ Q (.int zs.length) H
theorem scCircLen : FnScope ["self"] ["self"] (defScope sCircLen) := ⟨rfl, rfl, rfl, by decide +kernel, rfl, by decide +kernel, by decide +kernel⟩
theorem ok_circLen {C fC : Addr} (F : Fun K "__len__" "Circle.__len__" sCircLen f fd) (T : Bl mg) (CC : CircC K C fC) : FnOk P w K mg base CX0 1 f fd ["self"] (spCircLen K C) := by
  refine F.ok scCircLen (fun vs H Q E h => ?_) (fun cdv A outer s H vs Q E hr h => ?_)
  · obtain ⟨c, zs, rfl, _⟩ := h
    rfl
  · obtain ⟨c, zs, rfl, ⟨cdx, nm, ec, en⟩, k⟩ := h
    refine ⟨_, pss_one (ps_ret (pe_callB call_len_seq (by rfl) T.len PySem.boot_len (pa_cons (pe_fld (pv 0) rfl) pa_nil))), ?_⟩
    refine ⟨_, rfl, c, C, cdx, _, .ref nm, rfl, ec, CC.cls, CC.nm, rfl, nm, _, rfl, .inr en.sq, ?_⟩
    rw [List.length_map]
    exact k
/-! ### lots -/
def RelL (D : Addr) (H : Hp) (v : V) (ns : List Int) : Prop := ∃ t, v = V.ref t ∧ H t = some (.lst (ns.map V.int)) ∧ t ≠ D
def RelPr (H : Hp) (v : V) (ns : List Int) : Prop := ∃ t b, v = V.ref t ∧ H t = some (.tup [.int (ns.length : Int), .ref b]) ∧ H b = some (.lst (ns.map V.int))
def RelT (H : Hp) (v : V) (ys : List Str) : Prop := ∃ t, v = V.ref t ∧ H t = some (.tup (ys.map V.str))
theorem RelPr.inj {H : Hp} {v : V} {ns ms : List Int} (h : RelPr H v ns) (g : RelPr H v ms) : ns = ms := by
  obtain ⟨t, b, e1, e2, e3⟩ := h
  obtain ⟨t', b', f1, f2, f3⟩ := g
  rw [e1] at f1
  cases f1
  rw [e2] at f2
  injection f2 with f2
  injection f2 with f2
  injection f2 with f4 f5
  injection f5 with f5 _
  injection f5 with f5
  subst f5
  rw [e3] at f3
  injection f3 with f3
  injection f3 with f3
  exact (List.map_inj_right (fun a b h => V.int.inj h)).mp f3
/-- all choices of the names, by their number, then their places -/
def LotsOk (zs : List Str) (rws : List (List Str)) : Prop := ∃ ord : List (List Nat), rws = ord.map (namesAt zs) ∧ ord.Perm ((List.range (2 ^ zs.length)).map (rowC zs.length)) ∧ SrtO.Srtd (fun x y : List Nat => ltLen (x.map fun p : Nat => (p : Int)) (y.map fun p : Nat => (p : Int))) ord
def spLots (K : PySem.W.Frag) (C : Addr) : Sp := fun vs H Q _ => ∃ (c : Addr) (zs : List Str), vs = [.ref c] ∧ CircAt K H C c zs ∧ zs.length ≤ 6 ∧
  ∀ (r : Addr) (ts : List V) (rws : List (List Str)) (H' : Hp), Same H H' → H' r = some (.tup ts) → Paired (RelT H') ts rws → LotsOk zs rws → Q (.ref r) H'
theorem scLots : FnScope ["circle", "codes", "rows", "code", "place", "ordered", "row", "_", "places"] ["circle"] (defScope sLots) := ⟨rfl, rfl, rfl, by decide +kernel, rfl, by decide +kernel, by decide +kernel⟩
def tLenC (K : PySem.W.Frag) (C : Addr) (i : Nat) : TE := tCB (rLenI C (spCircLen K C)) (tCons (tVar i) tNil)
def tPlaces (K : PySem.W.Frag) : TE := fun σ H Q => tLc (iList K (tVar 8)) (gName 4) tYes (tOp (rIxT K) (tFld K (tVar 0) "names") (tVar 4)) [4] σ H fun x H1 => kTup K x H1 Q
theorem ok_lots {C fC fL : Addr} {fdL : FuncData} (F : Fun K "lots" "lots" sLots f fd) (T : Bl mg) (Cc : Cn mg) (CC : CircC K C fC) (ML : MethC K C "__len__" fL) (FL : Fun K "__len__" "Circle.__len__" sCircLen fL fdL) (bL : Binds K fdL ["self"] []) :
    FnOk P w K mg base CX0 3 f fd ["circle"] (spLots K C) := by
  have GL : FnOk P w K mg base CX0 1 fL fdL ["self"] (spCircLen K C) := ok_circLen FL T CC
  refine F.ok scLots (fun vs H Q E h => ?_) (fun cdv A outer s H vs Q E hr h => ?_)
  · obtain ⟨c, zs, rfl, _⟩ := h
    rfl
  · obtain ⟨c, zs, rfl, hc, z6, k⟩ := h
    have nd := scLots.nd
    have hu := hu_of hr
    have hu8 : _ + 8 < cLine := Nat.lt_of_le_of_lt (Nat.add_le_add_left (by decide) _) (room64 hr)
    refine ⟨_, pss_cons (ps_set (i := 1) nd rfl (.inl rfl) (pe_callTy cr_range1 rfl T.range boot_range (pa_cons (pe_op op_oneShl pe_int (pe_callB (call_lenI GL ML.at_ ML.fn bL hr) (by rfl) T.len PySem.boot_len (pa_cons (pv 0) pa_nil))) pa_nil)))
      (pss_cons (ps_setLc (i := 2) (own := [("code", 3)]) (g := gName 3) (tt := tYes) (te := tLc (iRng1 (tCons (tLenC K C 0) tNil)) (gName 4) (tBitT K 3 4) (tVar 4) [4]) rfl nd rfl rfl (sw_true rfl rfl rfl (by decide +kernel)) (pi_rng (pv 1))
          (blkOk_by (N := ["circle", "codes", "rows", "code", "place", "ordered", "row", "_", "places"]) (sc := defScope sLots) (by decide +kernel)) (fun _ _ _ _ _ => pg_name (i := 3) nd rfl (.inr rfl)) (fun _ _ _ _ _ => pts_nil)
          (fun _ _ _ _ _ => pe_lc (own := [("place", 4)]) (g := gName 4) (tt := tBitT K 3 4) (te := tVar 4) rfl nd (pi_range1 (by rfl) T.range (pa_cons (pe_callB (call_lenI GL ML.at_ ML.fn bL hr) (by rfl) T.len PySem.boot_len (pa_cons (pv 0) pa_nil)) pa_nil))
            (blkOk_by (N := ["circle", "codes", "rows", "code", "place", "ordered", "row", "_", "places"]) (sc := relS (asgScope sLots 1) (defScope sLots)) (by decide +kernel)) (fun _ _ _ _ _ => pg_name (i := 4) nd rfl (.inl rfl))
            (fun _ _ _ _ _ => pts_one (pt_truth (pe_op op_odd (pe_op op_shrN (pv 3) (pv 4)) pe_int) (by intro _; rfl))) (fun _ _ _ _ _ => pv 4)))
      (pss_cons (ps_set (i := 5) nd rfl (.inl rfl) (pe_callB (cr_sortedLen (tup := false) hu8) (by rfl) Cc.sorted boot_sorted (pa_cons (pe_lc (own := [("row", 6)]) (g := gName 6) (tt := tYes) (te := tTup (tCons (tCB (rLenS K) (tCons (tVar 6) tNil)) (tCons (tVar 6) tNil))) rfl nd (pi_list (pv 2))
          (blkOk_by (N := ["circle", "codes", "rows", "code", "place", "ordered", "row", "_", "places"]) (sc := defScope sLots) (by decide +kernel)) (fun _ _ _ _ _ => pg_name (i := 6) nd rfl (.inl rfl)) (fun _ _ _ _ _ => pts_nil)
          (fun _ _ _ _ _ => pe_tup (pa_cons (pe_callB call_len_seq (by rfl) T.len PySem.boot_len (pa_cons (pv 6) pa_nil)) (pa_cons (pv 6) pa_nil)))) pa_nil)))
      (pss_one (ps_ret (pe_tupleOf (by rfl) Cc.tuple (pe_lc (own := [("_", 7), ("places", 8)]) (g := gTup K 2 (gCons (gName 7) (gCons (gName 8) gNil))) (tt := tYes)
          (te := tPlaces K) rfl nd (pi_list (pv 5))
          (blkOk_by (N := ["circle", "codes", "rows", "code", "place", "ordered", "row", "_", "places"]) (sc := defScope sLots) (by decide +kernel)) (fun _ _ _ _ _ => pg_tup rfl (pgs_cons (pg_name (i := 7) nd rfl (.inl rfl)) (pgs_cons (pg_name (i := 8) nd rfl (.inl rfl)) pgs_nil))) (fun _ _ _ _ _ => pts_nil)
          (fun _ _ _ _ _ => pe_tupleOf (by rfl) Cc.tuple (pe_lc (own := [("place", 4)]) (g := gName 4) (tt := tYes) (te := tOp (rIxT K) (tFld K (tVar 0) "names") (tVar 4)) rfl nd (pi_list (pv 8))
            (blkOk_by (N := ["circle", "codes", "rows", "code", "place", "ordered", "row", "_", "places"]) (sc := relS (retScope sLots 3) (defScope sLots)) (by decide +kernel)) (fun _ _ _ _ _ => pg_name (i := 4) nd rfl (.inl rfl)) (fun _ _ _ _ _ => pts_nil)
            (fun _ _ _ _ _ => pe_ix ix_tup (pe_fld (pv 0) rfl) (pv 4) (fun _ _ => rfl)))))))))), ?_⟩
    obtain ⟨cdx, nm, ec, en⟩ := id hc
    have hcs : ∀ {H'}, Same H H' → CircAt K H' C c zs := fun s => ⟨cdx, nm, s _ _ ec, en.same s⟩
    refine ⟨_, rfl, c, cdx, _, rfl, ec, c, zs, rfl, hc, _, rfl, by omega, by omega, zs.length, rfl, rfl, by omega, _, rfl, fun p np => ?_⟩
    have eI : ((2 : Int) ^ zs.length) = ((2 ^ zs.length : Nat) : Int) := by push_cast; rfl
    rw [eI]
    have N64 : 2 ^ zs.length ≤ 64 := Nat.le_trans (Nat.pow_le_pow_right (by decide) z6) (by decide)
    have s1 : Same H (upd H p (.rng 0 ((2 ^ zs.length : Nat) : Int))) := same_new np
    have ep : upd H p (.rng 0 ((2 ^ zs.length : Nat) : Int)) p = some (.rng 0 ((2 ^ zs.length : Nat) : Int)) := upd_same
    generalize upd H p (.rng 0 ((2 ^ zs.length : Nat) : Int)) = H1 at s1 ep
    obtain ⟨N, hN⟩ : ∃ N, N = 2 ^ zs.length := ⟨_, rfl⟩
    rw [← hN] at ep N64
    refine ⟨_, rfl, p, 0, (N : Int), rfl, ep, ⟨by decide, by decide, by omega, by omega⟩, fun D nD => ?_⟩
    have eT : ((N : Int) - 0).toNat = N := by omega
    rw [eT]
    refine lc_relD (walk_rangeV (lo := 0) (n := N)) (List.range N) (fun i => V.int ((0 : Int) + (i : Nat))) (fun b => rowI zs.length b) (RelL D) nD (fun Ha Hb v b kb r => ?_) rfl (by rw [List.length_range]; omega) (fun _ _ => trivial) ?_ ?_
    · obtain ⟨t, e1, e2, e3⟩ := r
      exact ⟨t, e1, kb _ _ e3 e2, e3⟩
    · intro i b H2 R hb s2 nD2 kR
      have sH2 := s1.trans s2
      refine ⟨rfl, _, rfl, c, cdx, _, rfl, sH2 _ _ ec, c, zs, rfl, hcs sH2, _, rfl, by omega, by omega, _, rfl, by omega, by omega, fun D2 nD2' => ?_⟩
      refine lc_fm (walk_range (lo := 0) (n := ((zs.length : Nat) : Int).toNat)) (List.range zs.length) (fun q => if b / 2 ^ q % 2 = 1 then some (V.int ((0 : Int) + (q : Nat))) else none) (by rw [List.length_range, Int.toNat_natCast]) (by omega) nD2' (fun _ _ => trivial) ?_ ?_
      · rintro j u q H4 H4' R2 Rn2 hq s4 ⟨rfl, rfl⟩ g1 g2
        have hj : j < zs.length := by
          have := (List.getElem?_eq_some_iff.mp hq).1
          rw [List.length_range] at this
          exact this
        obtain rfl : j = q := by
          rw [List.getElem?_range hj] at hq
          exact Option.some.inj hq
        refine ⟨rfl, _, rfl, _, rfl, _, j, rfl, (show V.int ((0 : Int) + (j : Nat)) = V.int (j : Int) by rw [Int.zero_add]), b / 2 ^ j, (show V.int (((0 : Int) + (b : Nat)) / 2 ^ j) = V.int ((b / 2 ^ j : Nat) : Int) by rw [Int.zero_add]; push_cast; rfl), rfl, _, rfl, ?_⟩
        by_cases h : b / 2 ^ j % 2 = 1
        · exact iteA (by rw [h]; rfl) ⟨_, rfl, g1 _ _ (if_pos h) (Same.refl _)⟩
        · have h0 : b / 2 ^ j % 2 = 0 := by omega
          exact iteB (by rw [h0]; rfl) (g2 _ (if_neg h) (Same.refl _))
      · intro H4 s4 eD2
        rw [fm_row zs.length b] at eD2
        exact kR H4 (.ref D2) s4 ⟨D2, rfl, eD2, fun z => nD2 (by rw [← z]; exact nD2')⟩
    · intro H3 ts s3 eD pr
      obtain ⟨ys, y1, y2, y3⟩ := paired_zip pr
      have yl : ys.length = N := by rw [← List.length_map (f := (·.2)), y2, List.length_map, List.length_range]
      refine ⟨_, rfl, D, rfl, ⟨_, SqL.of eD⟩, fun E nE => ?_⟩
      have relE : ∀ Ha Hb v b, KeepB E Ha Hb → (∃ t q, v = V.ref t ∧ Ha t = some (.tup [.int ((b : List Int).length : Int), .ref q]) ∧ Ha q = some (.lst (b.map V.int)) ∧ t ≠ E ∧ q ≠ E) → (∃ t q, v = V.ref t ∧ Hb t = some (.tup [.int (b.length : Int), .ref q]) ∧ Hb q = some (.lst (b.map V.int)) ∧ t ≠ E ∧ q ≠ E) := fun Ha Hb v b kb ⟨t, q, e1, e2, e3, e4, e5⟩ => ⟨t, q, e1, kb _ _ e4 e2, kb _ _ e5 e3, e4, e5⟩
      refine lc_relD (walk_list (a := D) (xs := ts)) ys (·.1) (·.2) (fun H v b => ∃ t q, v = V.ref t ∧ H t = some (.tup [.int ((b : List Int).length : Int), .ref q]) ∧ H q = some (.lst (b.map V.int)) ∧ t ≠ E ∧ q ≠ E) nE relE y1.symm (by omega) (fun H s => s.seq (SqL.of eD)) ?_ ?_
      · rintro i ⟨yv, yn⟩ H4 R hy s4 nE4 kR
        obtain ⟨t, et, eh, _⟩ := y3 _ (List.mem_of_getElem? hy)
        dsimp only at et eh
        subst et
        have eh4 := s4 _ _ eh
        refine ⟨rfl, _, rfl, t, _, rfl, .inl (SqL.of eh4), _, rfl, few_ok rfl, fun q nq => ?_⟩
        rw [List.length_map]
        refine kR _ (.ref q) (same_new nq) ⟨q, t, rfl, upd_same, same_new nq _ _ eh4, fun z => nE4 (by rw [← z]; exact nq), fun z => ?_⟩
        rw [z, nE] at eh
        cases eh
      · intro H5 ts2 s5 eE pr2
        rw [y2] at pr2
        have pP : Paired (RelPr H5) ts2 ((List.range N).map fun b => rowI zs.length b) := Paired.mapP pr2 fun v b ⟨t, q, e1, e2, e3, _⟩ => ⟨t, q, e1, e2, e3⟩
        obtain ⟨ws, w1, w2, w3⟩ := paired_zip pP
        classical
        obtain ⟨kN, hkN⟩ : ∃ kN : V → List Nat, kN = fun x => if h : ∃ q : List Nat, RelPr H5 x (q.map fun p : Nat => (p : Int)) then h.choose else [] := ⟨_, rfl⟩
        have kOk : ∀ z ∈ ws, ∃ b, b < N ∧ z.2 = rowI zs.length b ∧ kN z.1 = rowC zs.length b := fun z hz => by
          have m : z.2 ∈ (List.range N).map fun b => rowI zs.length b := by rw [← w2]; exact List.mem_map.mpr ⟨z, hz, rfl⟩
          obtain ⟨b, hb, e⟩ := List.mem_map.mp m
          refine ⟨b, List.mem_range.mp hb, e.symm, ?_⟩
          have r := w3 z hz
          rw [← e] at r
          have ex : ∃ q : List Nat, RelPr H5 z.1 (q.map fun p : Nat => (p : Int)) := ⟨_, r⟩
          rw [hkN]
          show (if h : _ then _ else _) = _
          rw [dif_pos ex]
          have := RelPr.inj ex.choose_spec r
          exact (List.map_inj_right (fun a b h => Int.ofNat.inj h)).mp this
        have kmap : ts2.map kN = (List.range N).map (rowC zs.length) := by
          have e1 : ws.map (fun z => kN z.1) = ws.map fun z => z.2.map Int.toNat := List.map_congr_left fun z hz => by
            obtain ⟨b, _, e2, e3⟩ := kOk z hz
            rw [e2, e3]
            unfold rowI
            rw [List.map_map]
            simp [Function.comp_def]
          rw [← w1, List.map_map]
          show ws.map (fun z => kN z.1) = _
          rw [e1]
          have : ws.map (fun z => z.2.map Int.toNat) = (ws.map (·.2)).map fun x => x.map Int.toNat := by rw [List.map_map]; rfl
          rw [this, w2, List.map_map]
          refine List.map_congr_left fun b _ => ?_
          show (rowI zs.length b).map Int.toNat = _
          unfold rowI
          rw [List.map_map]
          simp [Function.comp_def]
        have relK : ∀ x ∈ ts2, RelPr H5 x ((kN x).map fun p : Nat => (p : Int)) := fun x hx => by
          rw [← w1] at hx
          obtain ⟨z, hz, rfl⟩ := List.mem_map.mp hx
          obtain ⟨b, _, e2, e3⟩ := kOk z hz
          rw [e3]
          have := w3 z hz
          rw [e2] at this
          exact this
        refine ⟨E, ts2, fun x => (kN x).map fun p : Nat => (p : Int), rfl, SqL.of eE, fun x hx => ?_, fun os p srt perm np => ?_⟩
        · obtain ⟨t, b, e1, e2, e3⟩ := relK x hx
          exact ⟨t, b, e1, e2, by rw [if_neg (by decide)]; exact SqL.of e3⟩
        have s6 : Same H5 (upd H5 p (.lst os)) := same_new np
        have ep6 : upd H5 p (.lst os) p = some (.lst os) := upd_same
        generalize upd H5 p (.lst os) = H6 at s6 ep6
        have relO : ∀ x ∈ os, RelPr H6 x ((kN x).map fun p : Nat => (p : Int)) := fun x hx => by
          obtain ⟨t, b, e1, e2, e3⟩ := relK x (perm.mem_iff.mp hx)
          exact ⟨t, b, e1, s6 _ _ e2, s6 _ _ e3⟩
        have ordP : (os.map kN).Perm ((List.range N).map (rowC zs.length)) := by
          rw [← kmap]
          exact perm.map kN
        have osl : os.length = N := by
          have := ordP.length_eq
          rw [List.length_map, List.length_map, List.length_range] at this
          exact this
        have sA : Same H H6 := ((s1.trans s3).trans s5).trans s6
        refine ⟨_, rfl, p, rfl, ⟨_, SqL.of ep6⟩, fun G nG => lc_relQ (walk_list (a := p) (xs := os)) nG os id (fun y => namesAt zs (kN y)) RelT (fun Ha Hb v b kp r => ?_) (by rw [List.map_id]) (by omega) (fun H s => s.seq (SqL.of ep6)) ?_ ?_⟩
        · obtain ⟨t, e1, e2⟩ := r
          exact ⟨t, e1, kp _ _ e2 fun _ z => by cases z⟩
        · intro i y H7 R hy s7 kR
          obtain ⟨t, b, e1, e2, e3⟩ := relO y (List.mem_of_getElem? hy)
          have small : ∀ q ∈ kN y, q < zs.length := fun q hq => by
            have m := ordP.mem_iff.mp (List.mem_map.mpr ⟨y, List.mem_of_getElem? hy, rfl⟩)
            obtain ⟨b, _, e⟩ := List.mem_map.mp m
            rw [← e] at hq
            exact rowC_lt hq
          have kl : (kN y).length ≤ 6 := by
            have m := ordP.mem_iff.mp (List.mem_map.mpr ⟨y, List.mem_of_getElem? hy, rfl⟩)
            obtain ⟨b, _, e⟩ := List.mem_map.mp m
            rw [← e]
            exact Nat.le_trans (rowC_len _ _) z6
          have e3' := s7 _ _ e3
          refine ⟨t, _, e1, SqT.of (s7 _ _ e2), rfl, _, _, rfl, _, _, rfl, rfl, rfl, _, rfl, b, rfl, ⟨_, SqL.of e3'⟩, fun E2 nE2 => ?_⟩
          refine lc_fm (walk_list (a := b) (xs := ((kN y).map fun p : Nat => (p : Int)).map V.int)) ((kN y).map fun p : Nat => (p : Int)) (fun p => some (V.str (zs.getD p.toNat Str.empty))) (by simp only [List.length_map]) (by simp only [List.length_map]; omega) nE2 (fun H s => s.seq (SqL.of e3')) ?_ ?_
          · rintro j u q H8 H8' R2 Rn2 hq s8 ⟨rfl, hu⟩ g1 g2
            obtain rfl : V.int q = u := by
              rw [List.getElem?_map, hq] at hu
              exact Option.some.inj hu
            obtain ⟨m, hm, rfl⟩ := List.mem_map.mp (List.mem_of_getElem? hq)
            have ml := small m hm
            have sH8 := (sA.trans s7).trans s8
            refine ⟨rfl, _, rfl, c, C, cdx, _, .ref nm, rfl, sH8 _ _ ec, CC.cls, CC.nm, rfl, _, rfl, nm, zs.map V.str, (m : Int), _, rfl, rfl, (en.same sH8).sq, atN (i := m) (v := V.str (zs.getD m Str.empty)) ?_, g1 _ _ (by rw [Int.toNat_natCast]) (Same.refl _)⟩
            rw [List.getElem?_map, List.getD_eq_getElem?_getD, List.getElem?_eq_getElem ml]
            rfl
          · intro H8 s8 e8
            rw [fm_at] at e8
            exact .inl ⟨E2, _, rfl, SqL.of e8, fun T nT => kR _ _ (s8.trans (same_new nT)) ⟨T, rfl, upd_same⟩⟩
        · intro H9 ts9 s9 eG pr9
          refine .inl ⟨G, _, rfl, SqL.of eG, fun r nr => ?_⟩
          have s10 := same_new (o := HO.tup ts9) nr
          refine k r ts9 (os.map fun y => namesAt zs (kN y)) _ ((sA.trans s9).trans s10) upd_same (Paired.mapP pr9 fun v b ⟨t, e1, e2⟩ => ⟨t, e1, s10 _ _ e2⟩) ⟨os.map kN, by rw [List.map_map]; rfl, ?_, SrtO.srtd_map srt⟩
          rw [← hN]
          exact ordP
end
end K6
set_option Elab.async false
set_option linter.all false
set_option maxRecDepth 100000
set_option maxHeartbeats 4000000
set_option pp.maxSteps 1200
set_option pp.deepTerms false
namespace K6
open PySem PySem.Spec PyProof.Rows L2 Lk
abbrev sPLess : Stmt := top 15
theorem all_in (zs : List Str) : ∀ ys : List Str, (ys.map fun y => decide (y ∈ zs)).all id = ys.all fun y => decide (y ∈ zs)
  | [] => rfl
  | y :: ys => by
    have ih := all_in zs ys
    rw [List.map_cons, List.all_cons, List.all_cons, ih]
    rfl
theorem fm_some {α : Type} (q : α → V) : ∀ xs : List α, (xs.filterMap fun x => some (q x)) = xs.map q
  | [] => rfl
  | x :: xs => by rw [List.filterMap_cons, List.map_cons, fm_some q xs]
section
variable {P : Program} {w : World} {K : PySem.W.Frag} {mg : Str → Option Value} {base : Heap} {f : Addr} {fd : FuncData}
/-! ### is_from_to, refuse_bound -/
def spFromTo : Sp := fun vs H Q _ => ∃ i lo hi : Int, vs = [.int i, .int lo, .int hi] ∧ lo ≤ i ∧ i ≤ hi ∧ Q (.bl true) H
def spRefBound : Sp := fun vs H Q _ => ∃ n : Nat, vs = [.int (n : Int)] ∧ n ≤ 3 ∧ Q .non H
/-! ### is_within, less -/
def spWithin (K : PySem.W.Frag) : Sp := fun vs H Q _ => ∃ (a b : Addr) (ys zs : List Str), vs = [.ref a, .ref b] ∧ Sq K H a (ys.map V.str) ∧ Sq K H b (zs.map V.str) ∧ ys.length ≤ 100 ∧ ∀ H', Same H H' → Q (.bl (ys.all fun y => decide (y ∈ zs))) H'
def spPLess (K : PySem.W.Frag) : Sp := fun vs H Q _ => ∃ (n s : Addr) (ns ss : List Str), vs = [.ref n, .ref s] ∧ Sq K H n (ns.map V.str) ∧ Sq K H s (ss.map V.str) ∧ ns.length ≤ 100 ∧
  ∀ p H', Same H H' → H p = none → H' p = some (.tup ((ns.filter fun p => !decide (p ∈ ss)).map V.str)) → Q (.ref p) H'
theorem scPLess : FnScope ["lot", "other", "name"] ["lot", "other"] (defScope sPLess) := ⟨rfl, rfl, rfl, by decide +kernel, rfl, by decide +kernel, by decide +kernel⟩
theorem ok_pless (F : Fun K "less" "less" sPLess f fd) (hT : mg "tuple" = none) : FnOk P w K mg base CX0 1 f fd ["lot", "other"] (spPLess K) := by
  refine F.ok scPLess (fun vs H Q E h => ?_) (fun cdv A outer s H vs Q E hr h => ?_)
  · obtain ⟨n, q, ns, ss, rfl, _⟩ := h
    rfl
  · obtain ⟨n, q, ns, ss, rfl, hn, hs, n100, k⟩ := h
    have nd := scPLess.nd
    refine ⟨_, pss_one (ps_ret (pe_tupleOf (by rfl) hT (pe_lc (own := [("name", 2)]) (g := gName 2) (tt := tTest (tOp (rIn K true) (tVar 2) (tVar 1))) rfl nd (pi_seq (pi_list (pv 0)) (pi_tup (pv 0))) (blkOk_by (N := ["lot", "other", "name"]) (sc := defScope sPLess) (by decide +kernel))
        (fun _ _ _ _ _ => pg_name (i := 2) nd rfl (Or.inl rfl)) (fun _ _ _ _ _ => pts_one (pt_cmpR op_notIn_seq (pv 2) (pv 1) rfl)) (fun _ _ _ _ _ => pv 2)))), ?_⟩
    refine ⟨n, rfl, seq_lc (Q := fun x H1 => kTup K x H1 Q) ns V.str (fun p => if p ∈ ss then none else some (V.str p)) hn (by omega) ?_ ?_⟩
    · intro j b H' R Rn hb s' k1 k2
      refine ⟨rfl, _, rfl, _, rfl, q, _, rfl, hs.same s', rfl, flat_strs _, _, rfl, ?_⟩
      rw [inV_str]
      by_cases hz : b ∈ ss
      · refine iteB (by simp [hz]) ?_
        exact k2 _ (by simp [hz]) (Same.refl _)
      · refine iteA (by simp [hz]) ?_
        exact ⟨_, rfl, k1 _ _ (by simp [hz]) (Same.refl _)⟩
    · intro D H' nD s' e
      rw [fm_ifn] at e
      exact .inl ⟨D, _, rfl, SqL.of e, fun T nT => k T _ (s'.trans (same_new nT)) (s'.free nT) upd_same⟩
/-! ### tells_all, brings_back -/
end
end K6
set_option Elab.async false
set_option linter.all false
set_option maxRecDepth 100000
set_option maxHeartbeats 4000000
/-! Part X: exceptions of the text as values: made, asked for their class, read. -/
namespace Lk
open PySem PySem.Spec PyProof.Rows L2
/-- an own exception with the one field `value`: its object at a, of the class at C, its dict at d -/
def ErrAt (H : Hp) (C a d : Addr) (v : V) : Prop := H a = some (exo a C (some d)) ∧ H d = some (exd d [("value", v)])
theorem ErrAt.same {H H' : Hp} {C a d : Addr} {v : V} (h : ErrAt H C a d v) (k : Same H H') : ErrAt H' C a d v := ⟨k _ _ h.1, k _ _ h.2⟩
/-- what is asked of such a class: all of it is read off the written part -/
structure ErC (K : PySem.W.Frag) (C fI : Addr) : Prop where
  oex : OexC K C
  init : PySem.W.findIn K (.ref C) "__init__" = some (some (.ref fI))
  noV : PySem.W.findIn K (.ref C) "value" = some none
  ga : PySem.W.findIn K (.ref C) "__getattribute__" = some (some (.builtin "BaseException.__getattribute__"))
  gg : PySem.W.findIn K (.ref C) "__getattr__" = some none
  hd : PySem.W.hasDictIn K C = true
  cl : PySem.W.findIn K (.ref C) "__class__" = some (some (.builtin "object.__class__"))
  ob : PySem.W.mroIn K C (.type "object") = some true
/-- .. of the written part as a whole -/
structure ErK (K : PySem.W.Frag) (fI : Addr) : Prop where
  fn : PySem.W.typeIn K (.ref fI) = some (.type "function")
  cg : PySem.W.specialIn K (.builtin "object.__class__") "__get__" = some (some (.builtin "getset_descriptor.__get__"))
  ct : PySem.W.takesIn K (.builtin "object.__class__") = some true
/-- the promise of that __init__ -/
def spInitV (K : PySem.W.Frag) (fI : Addr) : Sp := fun vs H Q _ => ∃ (a C : Addr) (v : V), vs = [.ref a, v] ∧ ErC K C fI ∧ H a = some (exo a C none) ∧
  ∀ d, H d = none → d ≠ a → Q .non (upd (upd H d (exd d [("value", v)])) a (exo a C (some d)))
section
variable {X : Cx} {lev : Nat} {C fI : Addr} {fD : FuncData} {x : Str} {e : Expr} {t : TE} {p pos : Pos}
/-- C(e) as a value -/
def tErr (C : Addr) (t : TA) : TE := fun σ H Q => t σ H fun vs H1 => ∃ v, vs = [v] ∧ ∀ a d H2, H1 a = none → H1 d = none → Same H1 H2 → ErrAt H2 C a d v → Q (.ref a) H2
theorem pe_err {t : TA} (T : ErC X.K C fI) (TK : ErK X.K fI) (G : FnOk X.prog X.w X.K X.mg X.base CX0 lev fI fD ["self", "value"] (spInitV X.K fI)) (room : Room (lev + 1) X.A) (hb : Binds X.K fD ["self", "value"] [])
    (hg : Gl X x) (hm : X.mg x = some (.ref C)) (ha : PA X [e] t) (hdb : (x == ("__debug__" : Str)) = false := by decide)
    (hst : starEach [e] X.env = (false, eval e X.env) :: starEach [] X.env := by rfl) (hpl : (backTo pos (starEach [] X.env)).any (·.1) = false := by rfl) :
    PE X (.Call (.Name x p) [e] [] pos) (tErr C t) := by
  constructor
  intro pins s σ H Q I want
  obtain ⟨nm, qq, NN, bs, bm, sn, su, ab, col, dd, k0, k1, k2, k3, k5, hC, hbm⟩ := T.oex.cls
  refine wpAny_Call_Name_kw (ld_glob I hg hm ?_ hdb)
  refine PySem.W.callWith_K (h₀ := X.base) I.ok.mod.kin T.oex.kC (thn (ha.run pos pins s σ H _ I want) ?_) hst hpl
  rintro us s1 ⟨vs, H1, I1, rel, v, rfl, q1⟩
  refine ⟨I1.kIn, ?_⟩
  obtain ⟨hp, g, dr, tk, os⟩ := s1
  show wpAny _ _ (call (.ref C) us) _ _ _
  have up : hp.objs.size ≤ hp.objs.size + 1 := Nat.le_succ _
  have free : H1 (hp.objs.size + 1) = none := I1.hok.fresh up
  generalize hA : hp.objs.size + 1 = a at free up
  have keep : ∀ b o, hp.get? b = some o → ((hp.push (PySem.W.kdv_tup us)).push (PySem.HandSPX.excO C hp.objs.size)).get? b = some o :=
    fun b o z => Heap.get?_push_of_some _ (Heap.get?_push_of_some _ z)
  have here : ((hp.push (PySem.W.kdv_tup us)).push (PySem.HandSPX.excO C hp.objs.size)).get? a = some (PySem.HandSPX.excO C hp.objs.size) := by
    rw [← hA]
    heap_get
  have I2 : Inv X pins σ (upd H1 a (exo a C none)) ⟨(hp.push (PySem.W.kdv_tup us)).push (PySem.HandSPX.excO C hp.objs.size), g, dr, tk, os⟩ :=
    I1.laid (t' := tk) (a := a) (o := exo a C none) keep up (exo_ok here)
  have rel2 : Vals [V.ref a, v] (Value.ref a :: us) := .cons rfl rel
  have many : us.length = 1 := (Paired.length rel).symm
  have few : us.length ≤ sizeLine := by rw [many, sizeLine_eq]; decide
  have sp : spInitV X.K fI [V.ref a, v] (upd H1 a (exo a C none)) (fun r H2 => r = .non ∧ Q (.ref a) H2) E0 := by
    refine ⟨a, C, v, rfl, T, upd_same, fun d hd nd => ⟨rfl, q1 a d _ free ?_ ?_ ⟨upd_same, ?_⟩⟩⟩
    · rw [upd_ne nd] at hd; exact hd
    · intro b o z
      have nb := ne_of_none z free
      have nd2 : b ≠ d := fun y => by rw [← y, upd_ne nb, z] at hd; cases hd
      rw [upd_ne nb, upd_ne nd2, upd_ne nb]
      exact z
    · rw [upd_ne nd, upd_same]
  have binds := hb ⟨(hp.push (PySem.W.kdv_tup us)).push (PySem.HandSPX.excO C hp.objs.size), g, dr, tk, os⟩ (Value.ref a :: us) I2.kIn (by simp [many])
  rw [List.append_nil] at binds
  subst hA
  refine wpAny_call (PySem.HandSPX.call_own F.excBase_ValueError (fun Y => PySem.HandSPX.refsVE_contains Y bm hbm) (I1.kIn _ _ hC) (PySem.W.looks_findIn I1.kIn T.init)
    (fun self => PySem.W.bind_fn I1.kIn self TK.fn) few ?_)
  refine codeAny_mono (G.run _ X.stack _ _ ⟨Value.ref (hp.objs.size + 1) :: us, []⟩ (Value.ref (hp.objs.size + 1) :: us) _ _ E0 (room.make C us []) (I2.env0.make C us []) binds rel2 sp) ?_
  intro r s' hq
  cases r with
  | error er => exact hq.elim
  | ok fl =>
    cases fl with
    | ret u =>
      obtain ⟨w', H2, J, rv, e0, q2⟩ := I2.after hq
      subst e0
      exact ⟨rv, .ref (hp.objs.size + 1), H2, J, rfl, q2⟩
    | next => exact False.elim hq
    | brk => exact False.elim hq
    | cont => exact False.elim hq
/-- e.value -/
def tErrV (t : TE) : TE := fun σ H Q => t σ H fun x H1 => ∃ a C d v fI, x = .ref a ∧ ErC X.K C fI ∧ ErrAt H1 C a d v ∧ Q v H1
theorem pe_errV {e : Expr} {t : TE} (he : PE X e t) (hb : attributeBase e "value" X.env (eval e X.env) = eval e X.env := by rfl) : PE X (.Attribute e "value" pos) (tErrV (X := X) t) := by
  constructor
  intro pins s σ H Q I want
  refine attr_of hb (thn (he.run pins s σ H _ I want) ?_)
  rintro u s1 ⟨x, H1, I1, rx, a, C, d, v, fI, rfl, T, ⟨ea, ed⟩, q⟩
  cases (show u = Value.ref a from rx)
  obtain ⟨t1, ho⟩ := exo_at I1.hok ea
  obtain ⟨mA, hns, rel⟩ := exd_at I1.hok ed
  obtain ⟨od, hod, hl⟩ := lookIn_ns hns
  obtain ⟨u, hu, ru⟩ := RelO.some_of (v := v) (o := mA "value") (by
    have := rel "value"
    rw [lookup_put, if_pos rfl] at this
    exact this)
  have J : PySem.W.InstAt s1.heap a { cls := .ref C, dict := some d, data := .fields #[.ref t1, .none, .none, .none, .bool false, .none] } C (some od) := ⟨ho, rfl, rfl, hod⟩
  exact HandSPX.exc_get I1.kIn J T.ga T.gg T.oex.exC (PySem.W.findObj_own T.hd T.noV rfl (by rw [hl, hu])) (handed_of ru) ⟨v, H1, I1.tok _, ru, q⟩
/-- isinstance(e, D) of such an exception -/
def rErrIs (K : PySem.W.Frag) : List V → Hp → VK → Prop := fun xs H Q => ∃ (a C d fI : Addr) (v c : V) (u : Value) (b : Bool), xs = [.ref a, c] ∧ ErC K C fI ∧ ErK K fI ∧ ErrAt H C a d v ∧ ClsV c u ∧ PySem.W.kitOne K (.ref C) u = some b ∧ Q (.bl b) H
theorem call_errIs : CallR X (.builtin "isinstance") (rErrIs X.K) := by
  intro pins s σ H xs us Q I r h
  obtain ⟨a, C, d, fI, v, c, u, b, rfl, T, TK, ⟨ea, ed⟩, hc, hk, q⟩ := h
  obtain ⟨u1, u2, rfl, r1, r2⟩ := vals2 r
  have e2 := hc.eq r2
  subst e2
  cases (show u1 = Value.ref a from r1)
  obtain ⟨t1, ho⟩ := exo_at I.hok ea
  obtain ⟨mA, hns, rel⟩ := exd_at I.hok ed
  obtain ⟨od, hod, _⟩ := lookIn_ns hns
  have J : PySem.W.InstAt s.heap a { cls := .ref C, dict := some d, data := .fields #[.ref t1, .none, .none, .none, .bool false, .none] } C (some od) := ⟨ho, rfl, rfl, hod⟩
  have hcl : (PySem.W.clsIn X.K C).isSome = true := by
    have := T.hd
    unfold PySem.W.hasDictIn at this
    cases z : PySem.W.clsIn X.K C with
    | none => rw [z] at this; simp at this
    | some _ => rfl
  exact PySem.W.kia_one (PySem.W.kitx_exc hcl T.ga T.gg T.oex.exC T.cl TK.cg TK.ct T.ob) I.kIn J hk (fun z => nomatch z) fun tk => ⟨.bl b, H, I.tok tk, rfl, q⟩
end

/-! ### what the written part says of the classes -/
abbrev veMro : List Value := [.type "ValueError", .type "Exception", .type "BaseException", .type "object"]
/-- one class of the text, below the class at L (whose __init__ stands at fI), bound to the name x -/
structure ErRow (K : PySem.W.Frag) (mg : Str → Option Value) (fI : Addr) (ms : List Value) (x : Str) (C : Addr) : Prop where
  at_ : mg x = some (.ref C)
  er : ErC K C fI
  some_ : (PySem.W.clsIn K C).isSome = true
  mro : ∀ b : Value, PySem.W.subIn K (.ref C) b = some ((.ref C :: ms).contains b)
theorem erRow_mk {K : PySem.W.Frag} {h : Heap} {mg : Str → Option Value} (X : K.In h) (G : h.Ns mainGlobals mg) {fI C : Addr} {x : Str} {ms : List Value}
    {nm q : Str} {N : Addr} {bs : List Value} {sn : List Str} {su : List Value} {ab : Bool} {col : Option Bool} {dd : Option Addr} {m0 m1 m2 m3 m5 : Option Value}
    (aC : PySem.W.nsIn K mainGlobals x = some (some (.ref C)))
    (xL : K.lookup C = some (excClassObj nm q C N bs ms true sn su ab col dd m0 m1 m2 m3 m5 "ValueError.__new__"))
    (hms : PySem.HandSPX.refsVE ms = true)
    (sa : PySem.W.findIn K (.ref C) "__setattr__" = some (some (.builtin "object.__setattr__")))
    (ga : PySem.W.findIn K (.ref C) "__getattribute__" = some (some (.builtin "BaseException.__getattribute__")))
    (gg : PySem.W.findIn K (.ref C) "__getattr__" = some none)
    (nv : PySem.W.findIn K (.ref C) "value" = some none)
    (ini : PySem.W.findIn K (.ref C) "__init__" = some (some (.ref fI)))
    (cl : PySem.W.findIn K (.ref C) "__class__" = some (some (.builtin "object.__class__")))
    (kC : PySem.W.keepIn K (.ref C) = true) : ErRow K mg fI ms x C := by
  have hcl : PySem.W.clsIn K C = some { name := nm, bases := bs, mro := .ref C :: ms, ns := N, qualname := q, hasDict := true, slotNames := sn, subclasses := su, abstract := ab, collection := col, hasDel := false } := by
    unfold PySem.W.clsIn
    rw [xL] <;> rfl
  have hmro : ∀ b : Value, PySem.W.mroIn K C b = some ((.ref C :: ms).contains b) := by
    intro b
    unfold PySem.W.mroIn
    rw [hcl] <;> rfl
  have hty : PySem.W.typeIn K (.ref C) = some (.type "type") := by
    show (K.lookup C).map (·.cls) = _
    rw [xL] <;> rfl
  have has : ∀ Y : String, veMro.contains (.type Y) = true → ((.ref C :: ms).contains (.type Y)) = true := by
    intro Y hY
    have := PySem.HandSPX.refsVE_contains Y (.ref C :: ms) (show PySem.HandSPX.refsVE (.ref C :: ms) = true from hms)
    rw [this]
    exact hY
  refine ⟨PySem.W.mg_of X G aC, ⟨⟨⟨nm, q, N, bs, ms, sn, su, ab, col, dd, m0, m1, m2, m3, m5, xL, hms⟩, sa, ?_, hty, kC⟩, ini, nv, ga, gg, ?_, cl, ?_⟩, ?_, hmro⟩
  · show PySem.W.mroIn K C _ = _
    rw [hmro, has "BaseException" (by decide +kernel)]
  · unfold PySem.W.hasDictIn
    rw [hcl] <;> rfl
  · rw [hmro, has "object" (by decide +kernel)]
  · rw [hcl] <;> rfl
/-- isinstance, as the classes' chains tell it -/
theorem ErRow.kit {K : PySem.W.Frag} {mg : Str → Option Value} {fI C D : Addr} {ms ms' : List Value} {x y : Str} (r : ErRow K mg fI ms x C) (r' : ErRow K mg fI ms' y D) :
    PySem.W.kitOne K (.ref C) (.ref D) = some ((.ref C :: ms).contains (.ref D)) := by
  unfold PySem.W.kitOne
  by_cases e : C = D
  · subst e
    rw [if_pos (by simp)]
    simp
  · have n : ((Value.ref C == Value.ref D) = true) ↔ False := by simp [e]
    rw [if_neg (by rw [n]; exact id)]
    show (if ((PySem.W.clsIn K D).isSome && PySem.W.typeIn K (.ref D) == some (.type "type")) = true then PySem.W.subIn K (.ref C) (.ref D) else none) = _
    rw [if_pos (by rw [r'.some_, r'.er.oex.tyC]; rfl)]
    exact r.mro _
theorem ErRow.kitT {K : PySem.W.Frag} {mg : Str → Option Value} {fI C : Addr} {ms : List Value} {x : Str} (r : ErRow K mg fI ms x C) (T : String) (hT : PySem.W.kitMeta T = true) :
    PySem.W.kitOne K (.ref C) (.type T) = some ((.ref C :: ms).contains (.type T)) := by
  unfold PySem.W.kitOne
  rw [if_neg (by simp)]
  show (if PySem.W.kitMeta T = true then PySem.W.subIn K (.ref C) (.type T) else none) = _
  rw [if_pos hT]
  exact r.mro _
/-- a row each for several classes -/
inductive ErRows (K : PySem.W.Frag) (mg : Str → Option Value) (fI : Addr) (ms : List Value) : List Str → List Addr → Prop
  | nil : ErRows K mg fI ms [] []
  | cons {x : Str} {C : Addr} {xs : List Str} {Cs : List Addr} : ErRow K mg fI ms x C → ErRows K mg fI ms xs Cs → ErRows K mg fI ms (x :: xs) (C :: Cs)
theorem ErRows.get {K : PySem.W.Frag} {mg : Str → Option Value} {fI : Addr} {ms : List Value} : ∀ {xs : List Str} {Cs : List Addr} (i : Nat) {x : Str}, ErRows K mg fI ms xs Cs → xs[i]? = some x → ErRow K mg fI ms x (Cs.getD i 0)
  | _, _, _, _, .nil, e => by simp at e
  | _, _, 0, _, .cons r _, e => by simp at e; subst e; exact r
  | _, _, i + 1, _, .cons _ rs, e => by
    have := ErRows.get i rs (by simpa using e)
    simpa using this
theorem ErRows.length {K : PySem.W.Frag} {mg : Str → Option Value} {fI : Addr} {ms : List Value} : ∀ {xs : List Str} {Cs : List Addr}, ErRows K mg fI ms xs Cs → xs.length = Cs.length
  | _, _, .nil => rfl
  | _, _, .cons _ r => congrArg (· + 1) r.length
theorem ErRows.mem {K : PySem.W.Frag} {mg : Str → Option Value} {fI : Addr} {ms : List Value} {C : Addr} : ∀ {xs : List Str} {Cs : List Addr}, ErRows K mg fI ms xs Cs → C ∈ Cs → ∃ x, ErRow K mg fI ms x C
  | _, _, .nil, h => by simp at h
  | _, _, .cons r rs, h => by
    rcases List.mem_cons.mp h with rfl | h
    · exact ⟨_, r⟩
    · exact rs.mem h
end Lk
set_option Elab.async false
set_option linter.all false
set_option maxRecDepth 100000
set_option maxHeartbeats 4000000
/-! Part Ex: an exception that is caught and stays behind the suite. -/
namespace Lk
open PySem PySem.Spec PyProof.Rows L2
/-- at a: an exception that was caught and stays, of the class cls, its dict d -/
def exq (a : Addr) (cls : Value) (d : Option Addr) : HO := .ext fun h => ∃ oe vs, h.get? a = some oe ∧ Zc cls d oe ∧ oe.data = .fields vs
theorem exq_ok {P : Program} {w : World} {H : Hp} {h : Heap} {a : Addr} {cls : Value} {d : Option Addr} {oe : Obj} {vs : Array Value} (e : h.get? a = some oe) (z : Zc cls d oe) (f : oe.data = .fields vs) : ObjOk P w H h a (exq a cls d) :=
  ⟨⟨oe, vs, e, z, f⟩, ⟨oe, e⟩, fun _ _ ⟨o, v, x, y, u⟩ k => ⟨o, v, k _ x, y, u⟩⟩
theorem exq_at {P : Program} {w : World} {H : Hp} {h : Heap} {a : Addr} {cls : Value} {d : Option Addr} (hok : HOk P w H h) (e : H a = some (exq a cls d)) : ∃ oe vs, h.get? a = some oe ∧ Zc cls d oe ∧ oe.data = .fields vs := by
  have x : ObjOk P w H h a (exq a cls d) := hok a _ e
  exact x.1
section
variable {X : Cx} {pins : List (Addr × Obj)} {σ : L2.St} {H : Hp} {s : Shared} {a : Addr} {cls : Value} {d : Option Addr} {oe : Obj} {vs : Array Value}
/-- such an exception is taken among what is known -/
theorem track (I : Inv X pins σ H s) (e : s.heap.get? a = some oe) (z : Zc cls d oe) (f : oe.data = .fields vs) (na : H a = none) (nL : a ≠ X.env.locals) (n0 : X.s_0.heap.get? a = none) (np : ∀ p ∈ X.pn ++ pins, p.1 ≠ a) :
    Inv X pins σ (upd H a (exq a cls d)) s := by
  have far : ∀ {b : Addr} {u : HO}, H b = some u → b ≠ a := fun q => ne_of_none q na
  refine ⟨I.ok, I.os, I.bare, ⟨I.base.keep, I.base.slot, fun b o q n x => ?_, I.base.there, fun b xs q => ?_, fun b o u q => ?_, fun b ps q => ?_⟩, I.loc, I.cell, ?_, fun x c q => ?_, fun p hp => ?_, HOk.laidN I.hok (fun _ _ q => q) na (exq_ok e z f), I.len⟩
  · rw [upd_ne (fun y => by rw [y, n0] at q; cases q)]
    exact I.base.free b o q n x
  · have t := I.base.tups b xs q
    rw [upd_ne (far t)]
    exact t
  · have t := I.base.frzs b o u q
    rw [upd_ne (far t)]
    exact t
  · obtain ⟨more, t⟩ := I.base.tbls b ps q
    exact ⟨more, by rw [upd_ne (far t)]; exact t⟩
  · rw [upd_ne (Ne.symm nL)]
    exact I.free
  · have nc : c ≠ a := fun y => by
      obtain ⟨v, o, h1, h2⟩ := I.cell x c q
      rw [y, e] at h1
      cases h1
      rw [f] at h2
      cases h2
    rw [upd_ne nc]
    exact I.freeC x c q
  · obtain ⟨h1, h2, h3⟩ := I.pin p hp
    exact ⟨h1, by rw [upd_ne (np p hp)]; exact h2, h3⟩
theorem suiteT (I : Inv X pins σ H s) (a : Addr) : Inv (X.suite a (X.pn ++ pins)) [] σ H s :=
  ⟨I.ok.suite _ _, I.os, I.bare, I.base, I.loc, I.cell, I.free, I.freeC, fun p hp => I.pin p (by rw [List.append_nil] at hp; exact hp), I.hok, I.len⟩
theorem unsuiteT {pn' : List (Addr × Obj)} (ok : X.Ok) (I : Inv (X.suite a (X.pn ++ pins)) pn' σ H s) : Inv X pins σ H s :=
  ⟨ok, I.os, I.bare, I.base, I.loc, I.cell, I.free, I.freeC, fun p hp => I.pin p (List.mem_append_left _ hp), I.hok, I.len⟩
end
/-- the ends behind a suite whose name, in slot i, goes -/
def behind (i : Nat) (D : Ends) : Ends := { nx := fun σ H => D.nx (σ.set i none) H, rt := D.rt, bk := fun σ H => D.bk (σ.set i none) H, ct := fun σ H => D.ct (σ.set i none) H }
/-- what 'except x as n: suite' wishes of an exception of the body that it catches for sure -/
def wTrk (K : PySem.W.Frag) (c : Value) (i : Nat) (ts : TS) (D : Ends) : WX := fun cls d σ H =>
  PySem.W.exmOne K cls c = some true ∧ ∀ a, H a = none → ts (behind i D) (σ.set i (some (.ref a))) (upd H a (exq a cls d))
section
variable {X : Cx} {x n : Str} {c : Value} {i : Nat} {body suite : List Stmt} {b₀ : Stmt} {np pos pos' : Pos} {tb : WX → TS} {ts : TS}
theorem ps_try_trk (hs : X.stack = X.env :: X.outer) (hf : X.env.frame = some X.env.locals) (hex : X.ex = []) (hN : X.N.Nodup) (hi : X.N[i]? = some n) (hl : X.env.kindOf n = some .local) (hc : Names X x c)
    (hb : ∀ (W : WX) (pn : List (Addr × Obj)) (xe : Value → Shared → Prop), Takes (X.tr pn xe) W → PassesOwn (model X.prog X.w) X.A X.env xe → PSs (X.tr pn xe) body (tb W))
    (hu : ∀ (a : Addr) (pn : List (Addr × Obj)), PSs (X.suite a pn) (b₀ :: suite) ts) :
    PS X (.Try body [.ExceptHandler (some (.Name x np)) (some n) (b₀ :: suite) pos'] [] [] pos) (fun D σ H => tb (wTrk X.K c i ts D) D σ H) := by
  constructor
  intro pins s σ H D I want
  have ok := I.ok
  have fr : X.A.frames = some (X.env :: X.outer) := ok.frames.trans (congrArg some hs)
  refine wpAny_Try_except (wpAny_mono ((hb (wTrk X.K c i ts D) (X.pn ++ pins) _ ?takes PassesOwn.looking).run [] s σ H D (I.toTry _) want) ?fine (fun _ _ z => z))
  case fine =>
    intro fl s1 z
    cases fl with
    | next => exact wpAny_execs_nil (let ⟨p, q, J, r⟩ := z; ⟨p, q, J.ofTry ok, r⟩)
    | brk => exact let ⟨p, q, J, r⟩ := z; ⟨p, q, J.ofTry ok, r⟩
    | cont => exact let ⟨p, q, J, r⟩ := z; ⟨p, q, J.ofTry ok, r⟩
    | ret u => exact let ⟨v, p, q, J, r⟩ := z; ⟨v, p, q, J.ofTry ok, r⟩
  case takes =>
    rintro _ s' ⟨a, B, sI, pins', σ', H', cls, d, rfl, J', nb, up, sky, na, os, ag, yes, go⟩
    have J : Inv X pins σ' H' sI := J'.ofTry ok
    rw [show (X.tr (X.pn ++ pins) _).stack = X.env :: X.outer from hs] at sky
    show wpAny _ X.A (noteFrame (.ref a) X.env) _ _ _
    refine Sky.land Zc.steady fr hf sky fun h3 g3 up3 => ?_
    have J3 : Inv X pins σ' H' { s' with heap := h3 } := J.landed nb g3.1 (up.trans up3) os ag
    obtain ⟨o3, v3, at3, z3, f3⟩ := g3.there
    have nf : a ∉ frs (X.env :: X.outer) := fun m => by
      obtain ⟨_, o, e, no⟩ := g3.2.2.1.mem m
      rw [at3] at e
      cases e
      exact no _ f3
    have nL : a ≠ X.env.locals := fun y => nf (List.mem_filterMap.mpr ⟨X.env, List.mem_cons_self, by rw [hf, y]⟩)
    have gone : sI.heap.get? a = none := by
      cases q : sI.heap.get? a with
      | none => rfl
      | some o =>
        have y := nb a o q (by rw [hs]; exact nf)
        rw [g3.2.1] at y
        cases y
    have n0 : X.s_0.heap.get? a = none := by
      cases q : X.s_0.heap.get? a with
      | none => rfl
      | some o =>
        obtain ⟨o', y⟩ := J.base.there a o q (by rw [hex]; exact fun y => nomatch y)
        rw [gone] at y
        cases y
    have npn : ∀ p ∈ X.pn ++ pins, p.1 ≠ a := fun p hp y => by
      have q := (J.pin p hp).1
      rw [y, gone] at q
      cases q
    refine wpAny_handleBy_cons (codeAny_handlers_test ?_) (fun y => nomatch y)
    have T3 := suiteT (track J3 at3 z3 f3 na nL n0 npn) a
    have ty : PySem.W.Looks (model X.prog X.w) h3 (typeOf (.ref a)) cls := fun _ _ _ _ k q => wpAny_typeOf_ref (k _ _ at3) (by rw [z3.1]; exact q)
    have asked := (PySem.W.exm_one (M := model X.prog X.w) J3.kIn ty yes)
    have name : ∀ {Q E : Value → Shared → Prop}, Q c { s' with heap := h3 } → wpAny (model X.prog X.w) (X.A.mark (some (.ref a))) (eval (.Name x np) X.env) Q E { s' with heap := h3 } := by
      intro Q E q
      obtain ⟨g1, g2, g3 | ⟨g3, g4, g5⟩⟩ := hc
      · exact ld_glob T3 g1 g3 q g2
      · exact ld_blt T3 g1 g3 g4 q g5 g2
    refine name (asked.here (codeAny_handlers_suite_as ?_))
    refine HandSPX.lands_againZ g3 fun h4 g4 up4 => ?_
    have J4 : Inv X pins σ' H' { s' with heap := h4 } := J.landed nb g4.1 ((up.trans up3).trans up4) os ag
    obtain ⟨o4, v4, at4, z4, f4⟩ := g4.there
    refine store_ok (X := X.suite a (X.pn ++ pins)) (v := .ref a) (suiteT (track J4 at4 z4 f4 na nL n0 npn) a) hN hi (.inl hl) rfl (fun s5 S5 => ?_) (.inr hl)
    refine wpAny_mono ((hu a (X.pn ++ pins)).run [] s5 _ _ _ S5 (go a na)) ?_ (fun _ _ y => y.elim)
    intro fl s6 z
    have out : ∀ {τ : St} {G : Hp} {Q : Shared → Prop}, Inv (X.suite a (X.pn ++ pins)) [] τ G s6 → (∀ s7, Inv X pins (τ.set i none) G s7 → Q s7) →
        wpAny (model X.prog X.w) X.A (do bindName X.env n .none; unbindBehindTheSuite X.env n pos') (fun _ s7 => Q s7) X.xe s6 :=
      fun S6 q => gone_ok (unsuiteT ok S6) hN hi hl q
    cases fl with
    | next => exact let ⟨τ, G, S6, r⟩ := z; out S6 fun s7 J7 => ⟨_, _, J7, r⟩
    | brk => exact let ⟨τ, G, S6, r⟩ := z; out S6 fun s7 J7 => ⟨_, _, J7, r⟩
    | cont => exact let ⟨τ, G, S6, r⟩ := z; out S6 fun s7 J7 => ⟨_, _, J7, r⟩
    | ret u => exact let ⟨v, τ, G, S6, r1, r2⟩ := z; out S6 fun s7 J7 => ⟨v, _, _, J7, r1, r2⟩
end
/-! ### what is known of it: its class, its field -/
/-- at a: a caught exception of the class at C, its dict at d, with the one field `value` -/
def CauAt (H : Hp) (C a d : Addr) (v : V) : Prop := H a = some (exq a (.ref C) (some d)) ∧ H d = some (.xd [("value", v)])
theorem CauAt.keeps {H H' : Hp} {C a d : Addr} {v : V} (h : CauAt H C a d v) (k : ∀ b o, H b = some o → (∀ ps, o ≠ .tbl ps) → H' b = some o) : CauAt H' C a d v :=
  ⟨k _ _ h.1 (fun _ z => by cases (show HO.ext _ = HO.tbl _ from z)), k _ _ h.2 (fun _ z => by cases z)⟩
theorem CauAt.same {H H' : Hp} {C a d : Addr} {v : V} (h : CauAt H C a d v) (k : Same H H') : CauAt H' C a d v := h.keeps fun b o e _ => k b o e
section
variable {X : Cx} {e : Expr} {t : TE} {pos : Pos}
/-- e.value -/
def tCauV (K : PySem.W.Frag) (t : TE) : TE := fun σ H Q => t σ H fun x H1 => ∃ a C d v fI, x = .ref a ∧ ErC K C fI ∧ CauAt H1 C a d v ∧ Q v H1
theorem pe_cauV (he : PE X e t) (hb : attributeBase e "value" X.env (eval e X.env) = eval e X.env := by rfl) : PE X (.Attribute e "value" pos) (tCauV X.K t) := by
  constructor
  intro pins s σ H Q I want
  refine attr_of hb (thn (he.run pins s σ H _ I want) ?_)
  rintro u s1 ⟨x, H1, I1, rx, a, C, d, v, fI, rfl, T, ⟨ea, ed⟩, q⟩
  cases (show u = Value.ref a from rx)
  obtain ⟨oe, vs, ho, hz, hf⟩ := exq_at I1.hok ea
  obtain ⟨mA, hns, rel⟩ : ObjOk X.prog X.w H1 s1.heap d (.xd [("value", v)]) := I1.hok d _ ed
  obtain ⟨od, hod, hl⟩ := lookIn_ns hns
  obtain ⟨u, hu, ru⟩ := RelO.some_of (v := v) (o := mA "value") (by
    have := rel "value"
    rw [lookup_put, if_pos rfl] at this
    exact this)
  have J : PySem.W.InstAt s1.heap a oe C (some od) := ⟨ho, hz.1, by unfold PySem.W.notCls; rw [hf] <;> rfl, by rw [hz.2]; exact hod⟩
  exact HandSPX.exc_get I1.kIn J T.ga T.gg T.oex.exC (PySem.W.findObj_own T.hd T.noV rfl (by rw [hl, hu])) (handed_of ru) ⟨v, H1, I1.tok _, ru, q⟩
/-- isinstance(e, D) -/
def rCauIs (K : PySem.W.Frag) : List V → Hp → VK → Prop := fun xs H Q => ∃ (a C d fI : Addr) (v c : V) (u : Value) (b : Bool), xs = [.ref a, c] ∧ ErC K C fI ∧ ErK K fI ∧ CauAt H C a d v ∧ ClsV c u ∧ PySem.W.kitOne K (.ref C) u = some b ∧ Q (.bl b) H
theorem call_cauIs : CallR X (.builtin "isinstance") (rCauIs X.K) := by
  intro pins s σ H xs us Q I r h
  obtain ⟨a, C, d, fI, v, c, u, b, rfl, T, TK, ⟨ea, ed⟩, hc, hk, q⟩ := h
  obtain ⟨u1, u2, rfl, r1, r2⟩ := vals2 r
  have e2 := hc.eq r2
  subst e2
  cases (show u1 = Value.ref a from r1)
  obtain ⟨oe, vs, ho, hz, hf⟩ := exq_at I.hok ea
  obtain ⟨mA, hns, rel⟩ : ObjOk X.prog X.w H s.heap d (.xd [("value", v)]) := I.hok d _ ed
  obtain ⟨od, hod, _⟩ := lookIn_ns hns
  have J : PySem.W.InstAt s.heap a oe C (some od) := ⟨ho, hz.1, by unfold PySem.W.notCls; rw [hf] <;> rfl, by rw [hz.2]; exact hod⟩
  have hcl : (PySem.W.clsIn X.K C).isSome = true := by
    have := T.hd
    unfold PySem.W.hasDictIn at this
    cases z : PySem.W.clsIn X.K C with
    | none => rw [z] at this; simp at this
    | some _ => rfl
  exact PySem.W.kia_one (PySem.W.kitx_exc hcl T.ga T.gg T.oex.exC T.cl TK.cg TK.ct T.ob) I.kIn J hk (fun z => nomatch z) fun tk => ⟨.bl b, H, I.tok tk, rfl, q⟩
end
end Lk
set_option Elab.async false
set_option linter.all false
set_option maxRecDepth 100000
set_option maxHeartbeats 0
/-! Part Er: error classes of the text read off a head by a Bool. -/
namespace Lk
open PySem PySem.Spec PyProof.Rows L2
def lowA (K : PySem.W.Frag) : Addr := He.ga K "LotError"
def iniA (K : PySem.W.Frag) : Addr := He.ma K (lowA K) "__init__"
def slB (sl : List (Option Value)) : Bool := match sl with
  | [_, _, _, _, some (.builtin i), _] => decide (i = "ValueError.__new__")
  | _ => false
theorem slB_ok {sl : List (Option Value)} (h : slB sl = true) : ∃ m0 m1 m2 m3 m5, sl = [m0, m1, m2, m3, some (.builtin "ValueError.__new__"), m5] := by
  unfold slB at h
  split at h
  · obtain rfl := of_decide_eq_true h
    exact ⟨_, _, _, _, _, rfl⟩
  · cases h
def clsB (K : PySem.W.Frag) (C : Addr) (ms : List Value) : Bool := match K.lookup C with
  | some ⟨.type c, _, .cls cd, sl⟩ => decide (c = "type") && ((cd.mro == .ref C :: ms) && (cd.hasDict && (!cd.hasDel && slB sl.toList)))
  | _ => false
def rowB (K : PySem.W.Frag) (ms : List Value) (x : Str) : Bool :=
  He.eqO (PySem.W.nsIn K mainGlobals x) (some (some (.ref (He.ga K x)))) && (clsB K (He.ga K x) ms && (He.eqO (PySem.W.findIn K (.ref (He.ga K x)) "__setattr__") (some (some (.builtin "object.__setattr__")))
    && (He.eqO (PySem.W.findIn K (.ref (He.ga K x)) "__getattribute__") (some (some (.builtin "BaseException.__getattribute__"))) && (He.eqO (PySem.W.findIn K (.ref (He.ga K x)) "__getattr__") (some none)
    && (He.eqO (PySem.W.findIn K (.ref (He.ga K x)) "value") (some none) && (He.eqO (PySem.W.findIn K (.ref (He.ga K x)) "__init__") (some (some (.ref (iniA K))))
    && (He.eqO (PySem.W.findIn K (.ref (He.ga K x)) "__class__") (some (some (.builtin "object.__class__"))) && PySem.W.keepIn K (.ref (He.ga K x)))))))))
theorem clsB_ok {K : PySem.W.Frag} {C : Addr} {ms : List Value} (h : clsB K C ms = true) :
    ∃ nm q N bs sn su ab col dd m0 m1 m2 m3 m5, K.lookup C = some (excClassObj nm q C N bs ms true sn su ab col dd m0 m1 m2 m3 m5 "ValueError.__new__") := by
  unfold clsB at h
  cases z : K.lookup C with
  | none =>
    rw [z] at h
    cases h
  | some o =>
    obtain ⟨oc, od, dt, sl⟩ := o
    rw [z] at h
    cases oc with
    | type c =>
      cases dt with
      | cls cd =>
        obtain ⟨h1, h⟩ := He.ba h
        obtain ⟨h2, h⟩ := He.ba h
        obtain ⟨h3, h⟩ := He.ba h
        obtain ⟨h4, h5⟩ := He.ba h
        obtain ⟨nm, bs, mro, N, q, hdct, sn, su, ab, col, hdel⟩ := cd
        have e1 : c = "type" := of_decide_eq_true h1
        have e2 : mro = .ref C :: ms := beq_iff_eq.mp h2
        have e3 : hdct = true := h3
        have e4 : hdel = false := by simpa using h4
        subst e1 e2 e3 e4
        obtain ⟨sl⟩ := sl
        obtain ⟨m0, m1, m2, m3, m5, e5⟩ := slB_ok (show slB sl = true from h5)
        subst e5
        exact ⟨_, _, _, _, _, _, _, _, _, _, _, _, _, _, rfl⟩
      | _ => cases h
    | _ => cases dt <;> cases h
theorem rowB_ok {K : PySem.W.Frag} {h : Heap} {mg : Str → Option Value} (X : K.In h) (G : h.Ns mainGlobals mg) {x : Str} {ms : List Value} (hms : PySem.HandSPX.refsVE ms = true) (c : rowB K ms x = true) : ErRow K mg (iniA K) ms x (He.ga K x) := by
  obtain ⟨c1, c⟩ := He.ba c
  obtain ⟨c2, c⟩ := He.ba c
  obtain ⟨c3, c⟩ := He.ba c
  obtain ⟨c4, c⟩ := He.ba c
  obtain ⟨c5, c⟩ := He.ba c
  obtain ⟨c6, c⟩ := He.ba c
  obtain ⟨c7, c⟩ := He.ba c
  obtain ⟨c8, c9⟩ := He.ba c
  obtain ⟨nm, q, N, bs, sn, su, ab, col, dd, m0, m1, m2, m3, m5, xL⟩ := clsB_ok c2
  exact erRow_mk X G (He.eqO_ok c1) xL hms (He.eqO_ok c3) (He.eqO_ok c4) (He.eqO_ok c5) (He.eqO_ok c6) (He.eqO_ok c7) (He.eqO_ok c8) c9
end Lk
set_option Elab.async false
set_option linter.all false
set_option maxRecDepth 100000
set_option maxHeartbeats 1500000
set_option pp.maxSteps 1200
set_option pp.deepTerms false
namespace K6
open PySem PySem.Spec PyProof.Rows L2 Lk
abbrev sBoth : Stmt := top 11
abbrev sEither : Stmt := top 12
abbrev sCommon : Stmt := top 16
abbrev sCLot : Stmt := inClass (top 9) 4
abbrev sCRest : Stmt := inClass (top 9) 5
/-! ### any value: is_lot -/
theorem any_str (ds : List PyData) (z : Str) : (ds.any fun d => PyData.eqv d (.str z)) = true ↔ PyData.str z ∈ ds := by
  rw [List.any_eq_true]
  constructor
  · rintro ⟨d, hd, e⟩
    rw [eqv_str] at e
    rw [← e]
    exact hd
  · intro h
    exact ⟨_, h, (eqv_str _ _).mpr rfl⟩
theorem any_strs (zs : List Str) (z : Str) : ((strsD zs).any fun d => PyData.eqv d (.str z)) = decide (z ∈ zs) := by
  rw [Bool.eq_iff_iff, any_str, decide_eq_true_iff]
  unfold strsD
  constructor
  · intro h
    obtain ⟨y, hy, e⟩ := List.mem_map.mp h
    cases e
    exact hy
  · intro h
    exact List.mem_map.mpr ⟨z, h, rfl⟩
/-- the names that stand in the value, in their order, are the value -/
theorem lot_iff {ns : List Str} (nd : ns.Nodup) (ds : List PyData) : PyData.eqv (.tuple ds) (.tuple (strsD (ns.filter fun z => ds.any fun d => PyData.eqv d (.str z)))) = true ↔ ∃ zs, PyData.tuple ds = .tuple (strsD zs) ∧ zs.Sublist ns := by
  rw [eqvD_strs]
  constructor
  · intro h
    exact ⟨_, h, List.filter_sublist⟩
  · rintro ⟨zs, h, hs⟩
    cases h
    have e : (ns.filter fun z => (strsD zs).any fun d => PyData.eqv d (.str z)) = ns.filter fun z => decide (z ∈ zs) := List.filter_congr fun z _ => any_strs zs z
    rw [e, sub_filterG hs nd]
section
variable {P : Program} {w : World} {K : PySem.W.Frag} {mg : Str → Option Value} {base : Heap} {f : Addr} {fd : FuncData}
theorem made_oex {CU fI : Addr} {v : V} {H : Hp} {Q : XK} (T : ErC K CU fI) (k : ∀ d H', Same H H' → H d = none → H' d = some (.xd [("value", v)]) → Q (.ref CU) (some d) H') :
    [v].length ≤ 1000 ∧ ∀ a, H a = none → spInitV K fI (.ref a :: ([v] ++ [])) (upd H a (exo a CU none))
      (fun x H2 => x = .non ∧ ∃ (d : Addr) (fs : List (Str × V)), H2 a = some (exo a CU (some d)) ∧ H2 d = some (exd d fs) ∧ H d = none ∧ Q (.ref CU) (some d) (upd (del H2 a) d (.xd fs))) (fun _ _ _ => False) := by
  refine ⟨by show 1 ≤ 1000; decide, fun a na => ⟨a, CU, v, rfl, T, upd_same, fun d hd nd => ⟨rfl, d, [("value", v)], upd_same, by rw [upd_ne nd, upd_same], ?_, ?_⟩⟩⟩
  · rw [upd_ne nd] at hd
    exact hd
  · rw [upd_ne nd] at hd
    refine k d _ (fun b o e => ?_) hd upd_same
    have nb : b ≠ a := ne_of_none e na
    have nbd : b ≠ d := ne_of_none e hd
    rw [upd_ne nbd, del_ne nb, upd_ne nb, upd_ne nbd, upd_ne nb]
    exact e
def spIsLotV (K : PySem.W.Frag) (C : Addr) : Sp := fun vs H Q _ => ∃ (c : Addr) (ns : List Str) (v : V) (d : PyData), vs = [.ref c, v] ∧ CircAt K H C c ns ∧ NmOk ns ∧ VD K H v d ∧ ∀ (b : Bool) (H' : Hp), Same H H' → (b = true ↔ ∃ zs, d = .tuple (strsD zs) ∧ zs.Sublist ns) → Q (.bl b) H'
theorem ok_isLotV {C fC : Addr} (F : Fun K "is_lot" "is_lot" sIsLot f fd) (T : Bl mg) (Cc : Cn mg) (CC : CircC K C fC) : FnOk P w K mg base CX0 1 f fd ["circle", "value"] (spIsLotV K C) := by
  refine F.ok scIsLot (fun vs H Q E h => ?_) (fun cdv A outer s H vs Q E hr h => ?_)
  · obtain ⟨c, ns, v, d, rfl, _⟩ := h
    rfl
  · obtain ⟨c, ns, v, d, rfl, ⟨cdx, nm, ec, en⟩, nok, hv, k⟩ := h
    have nd := scIsLot.nd
    have hu65 := room65 hr
    refine ⟨_, pss_one (ps_ret (pe_and (pe_callB call_isi (by rfl) T.isin boot_isinstance (pa_cons (pv 1) (pa_cons (pe_bltn (v := .ty "tuple") (by rfl) Cc.tuple rfl rfl) pa_nil)))
      (pe_one (pe_cmpR (op_eqD (room64 hr)) (pv 1) (pe_tupleOf (by rfl) Cc.tuple (pe_lc (own := [("name", 2)]) (g := gName 2) (tt := tTest (tOp (rInDT K) (tVar 2) (tVar 1))) (te := tVar 2) rfl nd (pi_tup (pe_fld (pv 0) rfl))
        (blkOk_by (N := ["circle", "value", "name"]) (sc := defScope sIsLot) (by decide +kernel)) (fun _ _ _ _ _ => pg_name (i := 2) nd rfl (.inl rfl)) (fun _ _ _ _ _ => pts_one (pt_cmpR (op_inDT hu65) (pv 2) (pv 1) rfl)) (fun _ _ _ _ _ => pv 2))) (nomark _))))), ?_⟩
    obtain ⟨t, ty, kt, _⟩ := vd_isi hv
    refine ⟨_, rfl, _, _, t, _, isTupB d, rfl, .ty _, ty, kt, _, rfl, ?_⟩
    cases e : isTupB d with
    | false => exact iteB rfl (k false _ (Same.refl _) ⟨(fun h => by cases h), fun ⟨ds, h, _⟩ => by rw [h] at e; cases e⟩)
    | true =>
      obtain ⟨a, xs, ds, rfl, rfl, hs, ha, nn⟩ := vd_tup hv e
      have shd := nn.shaped (by decide)
      refine iteT ?_
      refine ⟨_, rfl, _, rfl, c, C, cdx, _, .ref nm, rfl, ec, CC.cls, CC.nm, rfl, nm, rfl, ⟨_, en.sq⟩, fun D nD => lc_fm (walk_tup (a := nm) (xs := ns.map V.str)) ns (fun z => if (ds.any fun d => PyData.eqv d (.str z)) = true then some (V.str z) else none) (by rw [List.length_map]) (by rw [List.length_map]; have := nok.k6; omega) nD (fun H s => (en.same s).sq) ?_ ?_⟩
      · rintro i u z H2 H2' R Rn hz s2 ⟨rfl, hu⟩ k1 k2
        obtain rfl : V.str z = u := by
          rw [List.getElem?_map, hz] at hu
          exact Option.some.inj hu
        have zo := nok.ok z (List.mem_of_getElem? hz)
        refine ⟨rfl, _, rfl, _, rfl, .str z, ds, .str z, .tup (sqT_same s2 hs) (DpAll.same s2 ha), (Nice.str zo.1 zo.2).shaped (by decide), shd, _, rfl, ?_⟩
        by_cases h : (ds.any fun d => PyData.eqv d (.str z)) = true
        · exact iteA h ⟨_, rfl, k1 _ _ (if_pos h) (Same.refl _)⟩
        · exact iteB (by simpa using h) (k2 _ (if_neg h) (Same.refl _))
      · intro H2 s2 eD
        rw [fm_strs] at eD
        refine .inl ⟨D, _, rfl, SqL.of eD, fun q nq => ?_⟩
        have s3 : Same H2 (upd H2 q (.tup ((ns.filter fun z => ds.any fun d => PyData.eqv d (.str z)).map V.str))) := same_new nq
        have nl := nice_lot nok (List.filter_sublist (l := ns) (p := fun z => ds.any fun d => PyData.eqv d (.str z)))
        refine ⟨.tuple ds, .tuple (strsD _), .tup (sqT_same (s2.trans s3) hs) (DpAll.same (s2.trans s3) ha), .tup (SqT.of upd_same) (dp_strs _), shd, nl.shaped (by decide), k _ _ (s2.trans s3) ?_⟩
        exact lot_iff nok.nd ds
/-! ### refuse_lot, of any value -/
def LotD (ns : List Str) (d : PyData) : Prop := ∃ zs, d = .tuple (strsD zs) ∧ zs.Sublist ns
def spRefLotX (K : PySem.W.Frag) (C CN : Addr) : Sp := fun vs H Q E => ∃ (c : Addr) (ns : List Str) (v : V) (d : PyData), vs = [.ref c, v] ∧ CircAt K H C c ns ∧ NmOk ns ∧ VD K H v d ∧ (LotD ns d → ∀ H', Same H H' → Q .non H') ∧
  (¬ LotD ns d → ∀ x H', Same H H' → H x = none → H' x = some (.xd [("value", v)]) → E (.ref CN) (some x) H')
theorem ok_refLotX {C CN fI f1 : Addr} {fdI fd1 : FuncData} (F : Fun K "refuse_lot" "refuse_lot" sRefLot f fd) (T : ErC K CN fI) (TK : ErK K fI) (mU : mg "BadLot" = some (.ref CN))
    (GI : FnOk P w K mg base CX0 1 fI fdI ["self", "value"] (spInitV K fI)) (bI : Binds K fdI ["self", "value"] [])
    (G1 : FnOk P w K mg base CX0 1 f1 fd1 ["circle", "value"] (spIsLotV K C)) (a1 : At K mg "is_lot" f1 fd1 ["circle", "value"]) :
    FnOk P w K mg base (L2.CX P w) 3 f fd ["circle", "value"] (spRefLotX K C CN) := by
  refine F.okX scRefLot (fun vs H Q E h => ?_) (fun cdv A outer s H vs Q E hr h => ?_)
  · obtain ⟨c, ns, v, d, rfl, _⟩ := h
    rfl
  · obtain ⟨c, ns, v, d, rfl, hc, nok, hv, good, bad⟩ := h
    have hr1 : Room 1 _ := hr.mono (by decide)
    refine ⟨_, pss_one (ps_if (pt_not (pt_val (pe_call G1 hr1 (by rfl) a1.m a1.kp a1.b .nil pass0 (pa_cons (pv 0) (pa_cons (pv 1) pa_nil))))) (pss_one (ps_raise rfl (takes_of rfl rfl rfl rfl) (pmk_oex T.oex T.init TK.fn GI hr bI .nil pass0 (by rfl) mU (pa_cons (pv 1) pa_nil)))) pss_nil), ?_⟩
    refine ⟨_, rfl, _, rfl, c, ns, v, d, rfl, hc, nok, hv, fun b H1 s1 hb => ⟨_, rfl, ?_⟩⟩
    cases b with
    | true => exact iteB rfl (good (hb.mp rfl) _ s1)
    | false =>
      refine iteA rfl ⟨_, rfl, ?_⟩
      exact made_oex T fun x H' s4 nx e => bad (fun h => by have := hb.mpr h; cases this) x H' (s1.trans s4) (by
        cases z : H x with
        | none => rfl
        | some o => rw [s1 _ _ z] at nx; cases nx) e
/-! ### common -/
def spCommon (K : PySem.W.Frag) : Sp := fun vs H Q _ => ∃ (p q : Addr) (ys zs : List Str), vs = [.ref p, .ref q] ∧ SqT K H p (ys.map V.str) ∧ SqT K H q (zs.map V.str) ∧ ys.length ≤ 100 ∧
  ∀ r H', Same H H' → H r = none → H' r = some (.tup ((ys.filter fun y => decide (y ∈ zs)).map V.str)) → Q (.ref r) H'
theorem scCommon : FnScope ["lot", "other", "name"] ["lot", "other"] (defScope sCommon) := ⟨rfl, rfl, rfl, by decide +kernel, rfl, by decide +kernel, by decide +kernel⟩
theorem ok_common (F : Fun K "common" "common" sCommon f fd) (hT : mg "tuple" = none) : FnOk P w K mg base CX0 1 f fd ["lot", "other"] (spCommon K) := by
  refine F.ok scCommon (fun vs H Q E h => ?_) (fun cdv A outer s H vs Q E hr h => ?_)
  · obtain ⟨p, q, ys, zs, rfl, _⟩ := h
    rfl
  · obtain ⟨p, q, ys, zs, rfl, h1, h2, hl, k⟩ := h
    have nd := scCommon.nd
    refine ⟨_, pss_one (ps_ret (pe_tupleOf (by rfl) hT (pe_lc (own := [("name", 2)]) (g := gName 2) (tt := tTest (tOp (rIn K false) (tVar 2) (tVar 1))) (te := tVar 2) rfl nd (pi_tup (pv 0))
        (blkOk_by (N := ["lot", "other", "name"]) (sc := defScope sCommon) (by decide +kernel)) (fun _ _ _ _ _ => pg_name (i := 2) nd rfl (.inl rfl)) (fun _ _ _ _ _ => pts_one (pt_cmpR op_in_seq (pv 2) (pv 1) rfl)) (fun _ _ _ _ _ => pv 2)))), ?_⟩
    refine ⟨_, rfl, p, rfl, ⟨_, h1⟩, fun D nD => lc_fm (walk_tup (a := p) (xs := ys.map V.str)) ys (fun z => if decide (z ∈ zs) = true then some (V.str z) else none) (by rw [List.length_map]) (by rw [List.length_map]; omega) nD (fun H s => sqT_same s h1) ?_ ?_⟩
    · rintro i u z H2 H2' R Rn hz s2 ⟨rfl, hu⟩ k1 k2
      obtain rfl : V.str z = u := by
        rw [List.getElem?_map, hz] at hu
        exact Option.some.inj hu
      refine ⟨rfl, _, rfl, _, rfl, q, _, rfl, .inr (sqT_same s2 h2), rfl, flat_strs _, _, rfl, ?_⟩
      rw [if_neg (by decide), strs_inV]
      by_cases h : z ∈ zs
      · exact iteA (decide_eq_true h) ⟨_, rfl, k1 _ _ (if_pos (decide_eq_true h)) (Same.refl _)⟩
      · exact iteB (decide_eq_false h) (k2 _ (if_neg (by simpa using h)) (Same.refl _))
    · intro H2 s2 eD
      rw [fm_strs] at eD
      refine .inl ⟨D, _, rfl, SqL.of eD, fun q nq => k q _ (s2.trans (same_new nq)) ?_ upd_same⟩
      cases z : H q with
      | none => rfl
      | some o => rw [s2 _ _ z] at nq; cases nq
end
end K6
set_option Elab.async false
set_option linter.all false
set_option maxRecDepth 100000
set_option maxHeartbeats 1500000
set_option pp.maxSteps 1200
set_option pp.deepTerms false
namespace K6
open PySem PySem.Spec PyProof.Rows L2 Lk
theorem CircAt.same {K : PySem.W.Frag} {H H' : Hp} {C c : Addr} {ns : List Str} (h : CircAt K H C c ns) (s : Same H H') : CircAt K H' C c ns := by
  obtain ⟨dx, nm, e1, e2⟩ := h
  exact ⟨dx, nm, s _ _ e1, e2.same s⟩
theorem same_none {H H' : Hp} {x : Addr} (s : Same H H') (n : H' x = none) : H x = none := by
  cases z : H x with
  | none => rfl
  | some o => rw [s _ _ z] at n; cases n
theorem lotD_val {K : PySem.W.Frag} {H : Hp} {v : V} {ns zs : List Str} (h : VD K H v (.tuple (strsD zs))) : ∃ q, v = .ref q ∧ SqT K H q (zs.map V.str) := by
  obtain ⟨q, xs, ds, rfl, e, hs, ha, _⟩ := vd_tup h rfl
  cases e
  obtain rfl := dp_strs_inv ha
  exact ⟨q, rfl, hs⟩
section
variable {P : Program} {w : World} {K : PySem.W.Frag} {mg : Str → Option Value} {base : Heap} {f : Addr} {fd : FuncData}
/-! ### both -/
def spBoth (K : PySem.W.Frag) (C CN : Addr) : Sp := fun vs H Q E => ∃ (c : Addr) (ns : List Str) (v1 v2 : V) (d1 d2 : PyData), vs = [.ref c, v1, v2] ∧ CircAt K H C c ns ∧ NmOk ns ∧ VD K H v1 d1 ∧ VD K H v2 d2 ∧
  (∀ ys zs, d1 = .tuple (strsD ys) → d2 = .tuple (strsD zs) → ys.Sublist ns → zs.Sublist ns → ∀ r H', Same H H' → H r = none → H' r = some (.tup ((ys.filter fun y => decide (y ∈ zs)).map V.str)) → Q (.ref r) H') ∧
  (¬ LotD ns d1 → ∀ x H', Same H H' → H x = none → H' x = some (.xd [("value", v1)]) → E (.ref CN) (some x) H') ∧
  (LotD ns d1 → ¬ LotD ns d2 → ∀ x H', Same H H' → H x = none → H' x = some (.xd [("value", v2)]) → E (.ref CN) (some x) H')
theorem scBoth : FnScope ["circle", "one", "other"] ["circle", "one", "other"] (defScope sBoth) := ⟨rfl, rfl, rfl, by decide +kernel, rfl, by decide +kernel, by decide +kernel⟩
theorem ok_both {C CN f1 f2 : Addr} {fd1 fd2 : FuncData} (F : Fun K "both" "both" sBoth f fd)
    (G1 : FnOk P w K mg base (L2.CX P w) 3 f1 fd1 ["circle", "value"] (spRefLotX K C CN)) (a1 : At K mg "refuse_lot" f1 fd1 ["circle", "value"])
    (G2 : FnOk P w K mg base CX0 1 f2 fd2 ["lot", "other"] (spCommon K)) (a2 : At K mg "common" f2 fd2 ["lot", "other"]) :
    FnOk P w K mg base (L2.CX P w) 4 f fd ["circle", "one", "other"] (spBoth K C CN) := by
  refine F.okX scBoth (fun vs H Q E h => ?_) (fun cdv A outer s H vs Q E hr h => ?_)
  · obtain ⟨c, ns, v1, v2, d1, d2, rfl, _⟩ := h
    rfl
  · obtain ⟨c, ns, v1, v2, d1, d2, rfl, hc, nok, h1, h2, good, bad1, bad2⟩ := h
    have hr1 : Room 1 _ := hr.mono (by decide)
    refine ⟨_, pss_cons (ps_expr (pe_call G1 hr (by rfl) a1.m a1.kp a1.b .nil (passes_call (W := fun cls d _ H => E cls d H) (takes_of rfl rfl rfl rfl) (fun _ _ _ _ h => h)) (pa_cons (pv 0) (pa_cons (pv 1) pa_nil))))
      (pss_cons (ps_expr (pe_call G1 hr (by rfl) a1.m a1.kp a1.b .nil (passes_call (W := fun cls d _ H => E cls d H) (takes_of rfl rfl rfl rfl) (fun _ _ _ _ h => h)) (pa_cons (pv 0) (pa_cons (pv 2) pa_nil))))
      (pss_one (ps_ret (pe_call G2 hr1 (by rfl) a2.m a2.kp a2.b .nil pass0 (pa_cons (pv 1) (pa_cons (pv 2) pa_nil)))))), ?_⟩
    refine ⟨_, rfl, _, rfl, c, ns, v1, d1, rfl, hc, nok, h1, fun l1 H1 s1 => ?_, fun n1 => bad1 n1⟩
    refine ⟨_, rfl, _, rfl, c, ns, v2, d2, rfl, hc.same s1, nok, h2.same s1, fun l2 H2 s2 => ?_, fun n2 x H' s' nx e => bad2 l1 n2 x H' (s1.trans s') (same_none s1 nx) e⟩
    obtain ⟨ys, rfl, ysub⟩ := l1
    obtain ⟨zs, rfl, zsub⟩ := l2
    have s12 := s1.trans s2
    obtain ⟨q1, rfl, e1⟩ := lotD_val (ns := ns) (h1.same s12)
    obtain ⟨q2, rfl, e2⟩ := lotD_val (ns := ns) (h2.same s12)
    have y6 : ys.length ≤ 6 := Nat.le_trans ysub.length_le nok.k6
    exact ⟨_, rfl, _, rfl, q1, q2, ys, zs, rfl, e1, e2, by omega, fun r H' s' nr er => good ys zs rfl rfl ysub zsub r H' (s12.trans s') (same_none s12 nr) er⟩
/-! ### Circle.rest -/
def spCRest (K : PySem.W.Frag) (C CN : Addr) : Sp := fun vs H Q E => ∃ (c : Addr) (ns : List Str) (v : V) (d : PyData), vs = [.ref c, v] ∧ CircAt K H C c ns ∧ NmOk ns ∧ VD K H v d ∧
  (∀ ys, d = .tuple (strsD ys) → ys.Sublist ns → ∀ r H', Same H H' → H r = none → H' r = some (.tup ((ns.filter fun y => !decide (y ∈ ys)).map V.str)) → Q (.ref r) H') ∧
  (¬ LotD ns d → ∀ x H', Same H H' → H x = none → H' x = some (.xd [("value", v)]) → E (.ref CN) (some x) H')
theorem scCRest : FnScope ["self", "lot"] ["self", "lot"] (defScope sCRest) := ⟨rfl, rfl, rfl, by decide +kernel, rfl, by decide +kernel, by decide +kernel⟩
theorem ok_cRest {C CN fC f1 f2 : Addr} {fd1 fd2 : FuncData} (F : Fun K "rest" "Circle.rest" sCRest f fd) (CC : CircC K C fC)
    (G1 : FnOk P w K mg base (L2.CX P w) 3 f1 fd1 ["circle", "value"] (spRefLotX K C CN)) (a1 : At K mg "refuse_lot" f1 fd1 ["circle", "value"])
    (G2 : FnOk P w K mg base CX0 1 f2 fd2 ["lot", "other"] (spPLess K)) (a2 : At K mg "less" f2 fd2 ["lot", "other"]) :
    FnOk P w K mg base (L2.CX P w) 4 f fd ["self", "lot"] (spCRest K C CN) := by
  refine F.okX scCRest (fun vs H Q E h => ?_) (fun cdv A outer s H vs Q E hr h => ?_)
  · obtain ⟨c, ns, v, d, rfl, _⟩ := h
    rfl
  · obtain ⟨c, ns, v, d, rfl, hc, nok, h1, good, bad⟩ := h
    have hr1 : Room 1 _ := hr.mono (by decide)
    refine ⟨_, pss_cons (ps_expr (pe_call G1 hr (by rfl) a1.m a1.kp a1.b .nil (passes_call (W := fun cls d _ H => E cls d H) (takes_of rfl rfl rfl rfl) (fun _ _ _ _ h => h)) (pa_cons (pv 0) (pa_cons (pv 1) pa_nil))))
      (pss_one (ps_ret (pe_call G2 hr1 (by rfl) a2.m a2.kp a2.b .nil pass0 (pa_cons (pe_fld (pv 0) rfl) (pa_cons (pv 1) pa_nil))))), ?_⟩
    refine ⟨_, rfl, _, rfl, c, ns, v, d, rfl, hc, nok, h1, fun l1 H1 s1 => ?_, bad⟩
    obtain ⟨ys, rfl, ysub⟩ := l1
    obtain ⟨q1, rfl, e1⟩ := lotD_val (ns := ns) (h1.same s1)
    obtain ⟨cdx, nm, ec, en⟩ := hc.same s1
    have k6 := nok.k6
    exact ⟨_, rfl, c, C, cdx, _, .ref nm, rfl, ec, CC.cls, CC.nm, rfl, _, rfl, nm, q1, ns, ys, rfl, .inr en.sq, .inr e1, by omega, fun r H' s' nr er => good ys rfl ysub r H' (s1.trans s') (same_none s1 nr) er⟩
end
end K6
set_option Elab.async false
set_option linter.all false
set_option maxRecDepth 100000
set_option maxHeartbeats 1500000
set_option pp.maxSteps 1200
set_option pp.deepTerms false
namespace K6
open PySem PySem.Spec PyProof.Rows L2 Lk
theorem all_over {α : Type} {K : PySem.W.Frag} {J : It} {G : Hp → Prop} {vs0 : List V} (w : Walk J vs0.length G (YAt vs0)) {g : TG} {te : TE} {vs : List Nat} {σ : L2.St} {H1 : Hp} {R : VK} (xs : List α) (e : α → V) (q : α → Bool)
    (hv : vs0 = xs.map e) (few : xs.length ≤ 100000) (hG : ∀ H, Same H1 H → G H)
    (hs : ∀ (i : Nat) b H (R' : VK), xs[i]? = some b → Same H1 H → (∀ H4, Same H H4 → R' (.bl (q b)) H4) → g (e b) (wipe σ vs) H fun σ2 H2 => wipe σ2 vs = wipe σ vs ∧ te σ2 H2 R')
    (hd : ∀ H, Same H1 H → R (.bl (xs.all q)) H) : LcR J g tYes te vs σ H1 fun x H2 => tNil σ H2 fun xs H3 => rAll K (x :: xs) H3 R := by
  refine lc_over (Q := fun x H2 => rAll K [x] H2 R) w xs e (fun x => some (.bl (q x))) hv few hG (fun i b H R' Rn hb s k1 k2 => ?_) fun D H nD s ed => ?_
  · have z := hs i b H R' hb s fun H4 s4 => k1 H4 _ rfl s4
    have ty : (fun (σ2 : L2.St) H2 => wipe σ2 vs = wipe σ vs ∧ tYes σ2 H2 fun c H3 => if c = true then te σ2 H3 R' else Rn H3) = (fun σ2 H2 => wipe σ2 vs = wipe σ vs ∧ te σ2 H2 R') := by
      funext σ2 H2
      exact congrArg (And _) (tYes_if σ2 H2 (fun H3 => te σ2 H3 _) _)
    rw [ty]
    exact z
  · rw [fm_bl] at ed
    refine ⟨D, _, rfl, SqL.of ed, ?_⟩
    have : (xs.map q).all id = xs.all q := by simp [List.all_map]
    rw [this]
    exact hd H s
/-- names of this circle, in any order, perhaps twice -/
def NmsD (ns : List Str) (d : PyData) : Prop := ∃ zs, d = .tuple (strsD zs) ∧ ∀ z ∈ zs, z ∈ ns
theorem in_strsD {ns : List Str} {d : PyData} : ((strsD ns).any fun z => PyData.eqv z d) = true ↔ ∃ z ∈ ns, d = .str z := by
  rw [List.any_eq_true]
  unfold strsD
  constructor
  · rintro ⟨e, he, h⟩
    obtain ⟨z, hz, rfl⟩ := List.mem_map.mp he
    refine ⟨z, hz, ?_⟩
    cases d <;> simp [PyData.eqv] at h
    rw [h]
  · rintro ⟨z, hz, rfl⟩
    exact ⟨_, List.mem_map.mpr ⟨z, hz, rfl⟩, by simp [PyData.eqv]⟩
theorem all_names {ns : List Str} : ∀ {ds : List PyData}, (∀ d ∈ ds, ∃ z ∈ ns, d = .str z) → ∃ zs, ds = strsD zs ∧ ∀ z ∈ zs, z ∈ ns
  | [], _ => ⟨[], rfl, fun z h => by cases h⟩
  | d :: ds, h => by
    obtain ⟨z, hz, rfl⟩ := h d List.mem_cons_self
    obtain ⟨zs, rfl, hzs⟩ := all_names fun e he => h e (List.mem_cons_of_mem _ he)
    refine ⟨z :: zs, rfl, fun y hy => ?_⟩
    rcases List.mem_cons.mp hy with rfl | hy
    · exact hz
    · exact hzs y hy
section
variable {P : Program} {w : World} {K : PySem.W.Frag} {mg : Str → Option Value} {base : Heap} {f : Addr} {fd : FuncData}
/-! ### Circle.lot -/
def spCLot (K : PySem.W.Frag) (C CN : Addr) : Sp := fun vs H Q E => ∃ (c : Addr) (ns : List Str) (v : V) (d : PyData), vs = [.ref c, v] ∧ CircAt K H C c ns ∧ NmOk ns ∧ VD K H v d ∧
  (∀ zs, d = .tuple (strsD zs) → (∀ z ∈ zs, z ∈ ns) → ∀ r H', Same H H' → H r = none → H' r = some (.tup ((ns.filter fun y => decide (y ∈ zs)).map V.str)) → Q (.ref r) H') ∧
  (¬ NmsD ns d → ∀ x H', Same H H' → H x = none → H' x = some (.xd [("value", v)]) → E (.ref CN) (some x) H')
theorem scCLot : FnScope ["self", "some", "name"] ["self", "some"] (defScope sCLot) := ⟨rfl, rfl, rfl, by decide +kernel, rfl, by decide +kernel, by decide +kernel⟩
theorem ok_cLot {C CN fC fI : Addr} {fdI : FuncData} (F : Fun K "lot" "Circle.lot" sCLot f fd) (T : Bl mg) (Cc : Cn mg) (CC : CircC K C fC) (TE : ErC K CN fI) (TK : ErK K fI) (mU : mg "BadNames" = some (.ref CN))
    (GI : FnOk P w K mg base CX0 1 fI fdI ["self", "value"] (spInitV K fI)) (bI : Binds K fdI ["self", "value"] []) :
    FnOk P w K mg base (L2.CX P w) 3 f fd ["self", "some"] (spCLot K C CN) := by
  refine F.okX scCLot (fun vs H Q E h => ?_) (fun cdv A outer s H vs Q E hr h => ?_)
  · obtain ⟨c, ns, v, d, rfl, _⟩ := h
    rfl
  · obtain ⟨c, ns, v, d, rfl, hc, nok, hv, good, bad⟩ := h
    have nd := scCLot.nd
    have hu65 := room65 hr
    refine ⟨_, pss_cons (ps_if (PW.pt (pw_or (pt_not (pt_val (pe_callB call_isi (by rfl) T.isin boot_isinstance (pa_cons (pv 1) (pa_cons (pe_bltn (v := .ty "tuple") (by rfl) Cc.tuple rfl rfl) pa_nil)))))
          (pw_or1 (pt_not (pt_val (pe_callB (cr_all rfl) (by rfl) T.all boot_all (pa_cons (pe_lc (own := [("name", 2)]) (g := gName 2) (tt := tYes) (te := tOp (rInDT K) (tVar 2) (tFld K (tVar 0) "names")) rfl nd (pi_tup (pv 1))
            (blkOk_by (N := ["self", "some", "name"]) (sc := defScope sCLot) (by decide +kernel)) (fun _ _ _ _ _ => pg_name (i := 2) nd rfl (.inl rfl)) (fun _ _ _ _ _ => pts_nil)
            (fun _ _ _ _ _ => pe_cmpR (op_inDT hu65) (pv 2) (pe_fld (pv 0) rfl) rfl)) pa_nil))))))) (pss_one (ps_raise rfl (takes_of rfl rfl rfl rfl) (pmk_oex TE.oex TE.init TK.fn GI hr bI .nil pass0 (by rfl) mU (pa_cons (pv 1) pa_nil)))) pss_nil)
      (pss_one (ps_ret (pe_tupleOf (by rfl) Cc.tuple (pe_lc (own := [("name", 2)]) (g := gName 2) (tt := tTest (tOp (rIn K false) (tVar 2) (tVar 1))) (te := tVar 2) rfl nd (pi_tup (pe_fld (pv 0) rfl))
        (blkOk_by (N := ["self", "some", "name"]) (sc := defScope sCLot) (by decide +kernel)) (fun _ _ _ _ _ => pg_name (i := 2) nd rfl (.inl rfl)) (fun _ _ _ _ _ => pts_one (pt_cmpR op_in_seq (pv 2) (pv 1) rfl)) (fun _ _ _ _ _ => pv 2))))), ?_⟩
    obtain ⟨cdx, nm, ec, en⟩ := id hc
    have k6 := nok.k6
    obtain ⟨t, ty, kt, _⟩ := vd_isi hv
    refine ⟨_, rfl, _, _, t, _, isTupB d, rfl, .ty _, ty, kt, _, rfl, ?_⟩
    cases e : isTupB d with
    | false =>
      refine iteA rfl ⟨_, rfl, ?_⟩
      exact made_oex TE fun x H' s4 nx ex => bad (fun ⟨zs, h, _⟩ => by rw [h] at e; cases e) x H' s4 nx ex
    | true =>
    obtain ⟨q, xs, ds, rfl, rfl, hs, ha, nn⟩ := vd_tup hv e
    have dl : ds.length ≤ 100000 := nice_tlen nn
    obtain ⟨ps, e1, e2, e3⟩ := dpAll_zip ha
    have pl : ps.length = ds.length := by rw [← e2, List.length_map]
    have nN := (nice_lot nok (List.Sublist.refl ns)).shaped (by decide)
    refine iteB rfl ⟨_, rfl, q, rfl, ⟨_, hs⟩, all_over (walk_tup (a := q) (xs := xs)) ps (·.1) (fun z => (strsD ns).any fun y => PyData.eqv y z.2) e1.symm (by omega) (fun H s => sqT_same s hs) ?_ ?_⟩
    · rintro i ⟨v0, d0⟩ H6 R hb s6 kk
      have hm := List.mem_of_getElem? hb
      have hd := e3 _ hm
      have n0 := nice_item nn d0 (by rw [← e2]; exact List.mem_map.mpr ⟨_, hm, rfl⟩)
      exact ⟨rfl, _, rfl, _, rfl, c, C, cdx, _, .ref nm, rfl, s6 _ _ ec, CC.cls, CC.nm, rfl, d0, strsD ns, Dp.same s6 hd, .tup (en.same s6).sq (dp_strs ns), n0.shaped (by decide), nN, kk _ (Same.refl _)⟩
    · intro H6 s6
      refine ⟨_, rfl, ?_⟩
      by_cases ea : (ps.all fun z => (strsD ns).any fun y => PyData.eqv y z.2) = true
      case neg =>
        rw [Bool.not_eq_true] at ea
        rw [ea]
        refine iteA rfl ⟨_, rfl, ?_⟩
        refine made_oex TE fun x H' s4 nx ex => bad (fun ⟨zs, h, hz⟩ => ?_) x H' (s6.trans s4) (same_none s6 nx) ex
        have h := PyData.tuple.inj h
        have : (ps.all fun z => (strsD ns).any fun y => PyData.eqv y z.2) = true := List.all_eq_true.mpr fun z hz' => by
          have hz2 : z.2 ∈ ds := by rw [← e2]; exact List.mem_map.mpr ⟨z, hz', rfl⟩
          rw [h] at hz2
          obtain ⟨y, hy, e⟩ := List.mem_map.mp hz2
          exact in_strsD.mpr ⟨y, hz y hy, e.symm⟩
        rw [this] at ea
        cases ea
      rw [ea]
      obtain ⟨zs, rfl, hz⟩ : ∃ zs, ds = strsD zs ∧ ∀ z ∈ zs, z ∈ ns := all_names fun d hd => by
        rw [← e2] at hd
        obtain ⟨z, hz, rfl⟩ := List.mem_map.mp hd
        exact in_strsD.mp (List.all_eq_true.mp ea z hz)
      obtain rfl := dp_strs_inv ha
      have ec6 := s6 _ _ ec
      have en6 := en.same s6
      have hs6 := sqT_same s6 hs
      refine iteB rfl ⟨_, rfl, c, C, cdx, _, .ref nm, rfl, ec6, CC.cls, CC.nm, rfl, nm, rfl, ⟨_, en6.sq⟩, fun D nD => lc_fm (walk_tup (a := nm) (xs := ns.map V.str)) ns (fun z => if decide (z ∈ zs) = true then some (V.str z) else none) (by rw [List.length_map]) (by rw [List.length_map]; omega) nD (fun H s => (en6.same s).sq) ?_ ?_⟩
      · rintro i u z H2 H2' R Rn hz s2 ⟨rfl, hu⟩ k1 k2
        obtain rfl : V.str z = u := by
          rw [List.getElem?_map, hz] at hu
          exact Option.some.inj hu
        refine ⟨rfl, _, rfl, _, rfl, q, _, rfl, .inr (sqT_same s2 hs6), rfl, flat_strs _, _, rfl, ?_⟩
        rw [if_neg (by decide), strs_inV]
        by_cases h : z ∈ zs
        · exact iteA (decide_eq_true h) ⟨_, rfl, k1 _ _ (if_pos (decide_eq_true h)) (Same.refl _)⟩
        · exact iteB (decide_eq_false h) (k2 _ (if_neg (by simpa using h)) (Same.refl _))
      · intro H2 s2 eD
        rw [fm_strs] at eD
        have s62 := s6.trans s2
        exact .inl ⟨D, _, rfl, SqL.of eD, fun r nr => good zs rfl hz r _ (s62.trans (same_new nr)) (same_none s62 nr) upd_same⟩
end
end K6
set_option Elab.async false
set_option linter.all false
set_option maxRecDepth 100000
set_option maxHeartbeats 1500000
set_option pp.maxSteps 1200
set_option pp.deepTerms false
namespace K6
open PySem PySem.Spec PyProof.Rows L2 Lk
section
variable {P : Program} {w : World} {K : PySem.W.Frag} {mg : Str → Option Value} {base : Heap} {f : Addr} {fd : FuncData}
/-! ### is_name, of any value -/
def spIsNameV (K : PySem.W.Frag) : Sp := fun vs H Q _ => ∃ (v : V) (d : PyData), vs = [v] ∧ VD K H v d ∧ ∀ (b : Bool) (H' : Hp), Same H H' → (b = true ↔ ∃ z, d = .str z ∧ LowOk z) → Q (.bl b) H'
theorem ok_isNameV (F : Fun K "is_name" "is_name" sIsName f fd) (T : Bl mg) (C : Cn mg) : FnOk P w K mg base CX0 1 f fd ["value"] (spIsNameV K) := by
  refine F.ok scIsName (fun vs H Q E h => ?_) (fun cdv A outer s H vs Q E hr h => ?_)
  · obtain ⟨v, d, rfl, _⟩ := h
    rfl
  · obtain ⟨v, d, rfl, hv, k⟩ := h
    have nd := scIsName.nd
    obtain ⟨t, ht⟩ := C.letters
    refine ⟨_, pss_cons (ps_if (PW.pt (pw_or (pt_not (pt_val (pe_callB call_isi (by rfl) T.isin boot_isinstance (pa_cons (pv 0) (pa_cons (pe_bltn (v := .ty "str") (by rfl) C.str rfl rfl) pa_nil)))))
        (pw_or1 (pt_not (pt_chain op_le op_le pe_int (pe_callB call_len_str (by rfl) T.len PySem.boot_len (pa_cons (pv 0) pa_nil)) pe_int))))) (pss_one (ps_ret pe_bl)) pss_nil)
      (pss_one (ps_ret (pe_callB (cr_all rfl) (by rfl) T.all boot_all (pa_cons (pe_lc (own := [("sign", 1)]) (g := gName 1) (tt := tYes) (te := tOp (fun x y H Q => ∃ (c : Nat) (z : Str), x = .str ⟨#[c]⟩ ∧ y = .str z ∧ Q (.bl (decide (c ∈ z.cps.toList))) H) (tVar 1) (tC (.str LETTERS))) rfl nd (pi_str (pv 0)) (blkOk_by (N := ["value", "sign"]) (sc := defScope sIsName) (by decide +kernel))
          (fun _ _ _ _ _ => pg_name (i := 1) nd rfl (Or.inl rfl)) (fun _ _ _ _ _ => pts_nil) (fun _ _ _ _ _ => pe_cmpR op_in_sign (pv 1) (pe_glob (v := .str LETTERS) (by rfl) ht ⟨_, rfl⟩) rfl)) pa_nil)))), ?_⟩
    obtain ⟨ty0, ty, _, kt⟩ := vd_isi hv
    refine ⟨_, rfl, _, _, ty0, _, isStrB d, rfl, .ty _, ty, kt, _, rfl, ?_⟩
    cases e : isStrB d with
    | false => exact iteA rfl (k false _ (Same.refl _) ⟨(fun h => by cases h), fun ⟨z, h, _⟩ => by rw [h] at e; cases e⟩)
    | true =>
    obtain ⟨z, rfl, rfl, zl, _⟩ := vd_str hv e
    refine iteB rfl ⟨_, rfl, z, rfl, by rw [sizeLine_eq]; omega, _, _, rfl, rfl, _, rfl, ?_⟩
    by_cases z1 : 1 ≤ z.length
    case neg =>
      refine iteB (decide_eq_false (by omega)) ?_
      refine ⟨_, rfl, iteA rfl (k false _ (Same.refl _) ⟨(fun h => by cases h), fun ⟨y, h, hy⟩ => ?_⟩)⟩
      cases h
      exact absurd hy.1 z1
    refine iteA (decide_eq_true (by omega)) ⟨_, _, rfl, rfl, _, rfl, ?_⟩
    by_cases z8 : z.length ≤ 8
    case neg =>
      refine iteA (by rw [decide_eq_false (by omega)]; rfl) (k false _ (Same.refl _) ⟨(fun h => by cases h), fun ⟨y, h, hy⟩ => ?_⟩)
      cases h
      exact absurd hy.2.1 z8
    refine iteB (by rw [decide_eq_true (by omega)]; rfl) ?_
    have zz : z.cps.toList.length ≤ 8 := by simpa [Str.length] using z8
    refine ⟨_, rfl, z, rfl, str_lc (Q := fun x H1 => rAll K [x] H1 Q) (fun c => some (.bl (decide (c ∈ LETTERS.cps.toList)))) (by omega) ?_ ?_⟩
    · intro i c H1 R Rn hc s1 k1 k2
      exact ⟨rfl, _, rfl, c, LETTERS, rfl, rfl, k1 _ _ rfl (Same.refl _)⟩
    · intro D H1 nD s1 e
      rw [fm_bl] at e
      refine ⟨D, _, rfl, SqL.of e, k _ _ s1 ?_⟩
      rw [List.all_eq_true]
      constructor
      · intro h
        exact ⟨z, rfl, z1, z8, fun c hc => of_decide_eq_true (h _ (List.mem_map.mpr ⟨c, hc, rfl⟩))⟩
      · rintro ⟨y, h, hy⟩ b hb
        cases h
        obtain ⟨c, hc, rfl⟩ := List.mem_map.mp hb
        exact decide_eq_true (hy.2.2 c hc)
end
end K6
set_option Elab.async false
set_option linter.all false
set_option maxRecDepth 100000
set_option maxHeartbeats 1500000
set_option pp.maxSteps 1200
set_option pp.deepTerms false
namespace K6
open PySem PySem.Spec PyProof.Rows L2 Lk
abbrev sLIsLot : Stmt := top 30
abbrev sLBoth : Stmt := top 28
section
variable {P : Program} {w : World} {K : PySem.W.Frag} {mg : Str → Option Value} {base : Heap} {f : Addr} {fd : FuncData}
theorem scLIsLot : FnScope ["names", "value", "name"] ["names", "value"] (defScope sLIsLot) := ⟨rfl, rfl, rfl, by decide +kernel, rfl, by decide +kernel, by decide +kernel⟩
/-! ### any value: _law_is_lot -/
def spLIsLotV (K : PySem.W.Frag) : Sp := fun vs H Q _ => ∃ (n : Addr) (zs : List Str) (v : V) (d : PyData), vs = [.ref n, v] ∧ SqT K H n (zs.map V.str) ∧ NmOk zs ∧ VD K H v d ∧ ∀ (b : Bool) (H' : Hp), Same H H' → (b = true ↔ ∃ rs, d = .tuple (strsD rs) ∧ rs.Sublist zs) → Q (.bl b) H'
theorem ok_lIsLotV {f1 : Addr} {fd1 : FuncData} (F : Fun K "_law_is_lot" "_law_is_lot" sLIsLot f fd) (T : Bl mg) (Cc : Cn mg)
    (G1 : FnOk P w K mg base CX0 1 f1 fd1 ["names", "some"] (spLotOf K)) (a1 : At K mg "_law_lot_of" f1 fd1 ["names", "some"]) :
    FnOk P w K mg base CX0 2 f fd ["names", "value"] (spLIsLotV K) := by
  refine F.ok scLIsLot (fun vs H Q E h => ?_) (fun cdv A outer s H vs Q E hr h => ?_)
  · obtain ⟨n, zs, v, d, rfl, _⟩ := h
    rfl
  · obtain ⟨n, zs, v, d, rfl, hn, nk, hv, k⟩ := h
    have nd := scLIsLot.nd
    refine ⟨_, pss_cons (ps_if (PW.pt (pw_or (pt_not (pt_val (pe_callB call_isi (by rfl) T.isin boot_isinstance (pa_cons (pv 1) (pa_cons (pe_bltn (v := .ty "tuple") (by rfl) Cc.tuple rfl rfl) pa_nil)))))
          (pw_or1 (pt_not (pt_val (pe_callB (cr_all rfl) (by rfl) T.all boot_all (pa_cons (pe_lc (own := [("name", 2)]) (g := gName 2) (tt := tYes) (te := tCB (rIsi K) (tCons (tVar 2) (tCons (tC (.ty "str")) tNil))) rfl nd (pi_tup (pv 1))
            (blkOk_by (N := ["names", "value", "name"]) (sc := defScope sLIsLot) (by decide +kernel)) (fun _ _ _ _ _ => pg_name (i := 2) nd rfl (.inl rfl)) (fun _ _ _ _ _ => pts_nil)
            (fun _ _ _ _ _ => pe_callB call_isi (by rfl) T.isin boot_isinstance (pa_cons (pv 2) (pa_cons (pe_bltn (v := .ty "str") (by rfl) Cc.str rfl rfl) pa_nil)))) pa_nil))))))) (pss_one (ps_ret pe_bl)) pss_nil)
      (pss_one (ps_ret (pe_cmpR (op_eqD (room64 hr)) (pv 1) (pe_call G1 hr (by rfl) a1.m a1.kp a1.b .nil pass0 (pa_cons (pv 0) (pa_cons (pv 1) pa_nil))) (nomark _)))), ?_⟩
    obtain ⟨t, ty, kt, _⟩ := vd_isi hv
    refine ⟨_, rfl, _, _, t, _, isTupB d, rfl, .ty _, ty, kt, _, rfl, ?_⟩
    cases e : isTupB d with
    | false => exact iteA rfl (k false _ (Same.refl _) ⟨(fun h => by cases h), fun ⟨ds, h, _⟩ => by rw [h] at e; cases e⟩)
    | true =>
    obtain ⟨a, xs, ds, rfl, rfl, hs, ha, nn⟩ := vd_tup hv e
    have shd := nn.shaped (by decide)
    have dl : ds.length ≤ 100000 := nice_tlen nn
    obtain ⟨ps, e1, e2, e3⟩ := dpAll_zip ha
    have pl : ps.length = ds.length := by rw [← e2, List.length_map]
    refine iteB rfl ⟨_, rfl, a, rfl, ⟨_, hs⟩, all_over (walk_tup (a := a) (xs := xs)) ps (·.1) (fun z => isStrB z.2) e1.symm (by omega) (fun H s => sqT_same s hs) ?_ ?_⟩
    · rintro i ⟨v0, d0⟩ H6 R hb s6 kk
      have hm := List.mem_of_getElem? hb
      have hd := e3 _ hm
      have n0 := nice_item nn d0 (by rw [← e2]; exact List.mem_map.mpr ⟨_, hm, rfl⟩)
      obtain ⟨t0, ty0, _, kt0⟩ := vd_isi (K := K) (H := H6) (.inl ⟨Dp.same s6 hd, n0⟩)
      exact ⟨rfl, _, rfl, _, _, t0, _, isStrB d0, rfl, .ty _, ty0, kt0, kk _ (Same.refl _)⟩
    · intro H6 s6
      refine ⟨_, rfl, ?_⟩
      by_cases ea : (ps.all fun z => isStrB z.2) = true
      case neg =>
        rw [Bool.not_eq_true] at ea
        rw [ea]
        refine iteA rfl (k false _ s6 ⟨(fun h => by cases h), fun ⟨rs, h, _⟩ => ?_⟩)
        have h := PyData.tuple.inj h
        have : (ps.all fun z => isStrB z.2) = true := List.all_eq_true.mpr fun z hz => by
          have hz2 : z.2 ∈ ds := by rw [← e2]; exact List.mem_map.mpr ⟨z, hz, rfl⟩
          rw [h] at hz2
          obtain ⟨y, _, e⟩ := List.mem_map.mp hz2
          rw [← e]
          rfl
        rw [this] at ea
        cases ea
      rw [ea]
      obtain ⟨rows, rfl⟩ : ∃ rows, ds = strsD rows := all_strB fun d hd => by
        rw [← e2] at hd
        obtain ⟨z, hz, rfl⟩ := List.mem_map.mp hd
        exact List.all_eq_true.mp ea z hz
      obtain rfl := dp_strs_inv ha
      have k6 := nk.k6
      refine iteB rfl ⟨_, rfl, _, rfl, _, rfl, n, a, zs, rows, rfl, .inr (sqT_same s6 hn), .inr (sqT_same s6 hs), by omega, fun p H7 s7 np ep => ?_⟩
      have ep : H7 p = some (.tup ((zs.filter fun p => decide (p ∈ rows)).map V.str)) := ep
      have s67 := s6.trans s7
      have nl := nice_lot nk (List.filter_sublist (l := zs) (p := fun p => decide (p ∈ rows)))
      refine ⟨.tuple (strsD rows), .tuple (strsD _), .tup (sqT_same s67 hs) (DpAll.same s67 ha), .tup (SqT.of ep) (dp_strs _), shd, nl.shaped (by decide), k _ _ s67 ?_⟩
      have ef : (zs.filter fun p => decide (p ∈ rows)) = zs.filter fun z => (strsD rows).any fun d => PyData.eqv d (.str z) := List.filter_congr fun z _ => (any_strs rows z).symm
      rw [ef]
      exact lot_iff nk.nd _
/-! ### _law_both -/
def spLBoth (K : PySem.W.Frag) : Sp := fun vs H Q _ => ∃ (p q : Addr) (ys zs : List Str), vs = [.ref p, .ref q] ∧ SqT K H p (ys.map V.str) ∧ SqT K H q (zs.map V.str) ∧ ys.length ≤ 100 ∧
  ∀ r H', Same H H' → H r = none → H' r = some (.tup ((ys.filter fun y => decide (y ∈ zs)).map V.str)) → Q (.ref r) H'
theorem scLBoth : FnScope ["one", "other", "name"] ["one", "other"] (defScope sLBoth) := ⟨rfl, rfl, rfl, by decide +kernel, rfl, by decide +kernel, by decide +kernel⟩
theorem ok__law_both (F : Fun K "_law_both" "_law_both" sLBoth f fd) (hT : mg "tuple" = none) : FnOk P w K mg base CX0 1 f fd ["one", "other"] (spLBoth K) := by
  refine F.ok scLBoth (fun vs H Q E h => ?_) (fun cdv A outer s H vs Q E hr h => ?_)
  · obtain ⟨p, q, ys, zs, rfl, _⟩ := h
    rfl
  · obtain ⟨p, q, ys, zs, rfl, h1, h2, hl, k⟩ := h
    have nd := scLBoth.nd
    refine ⟨_, pss_one (ps_ret (pe_tupleOf (by rfl) hT (pe_lc (own := [("name", 2)]) (g := gName 2) (tt := tTest (tOp (rIn K false) (tVar 2) (tVar 1))) (te := tVar 2) rfl nd (pi_tup (pv 0))
        (blkOk_by (N := ["one", "other", "name"]) (sc := defScope sLBoth) (by decide +kernel)) (fun _ _ _ _ _ => pg_name (i := 2) nd rfl (.inl rfl)) (fun _ _ _ _ _ => pts_one (pt_cmpR op_in_seq (pv 2) (pv 1) rfl)) (fun _ _ _ _ _ => pv 2)))), ?_⟩
    refine ⟨_, rfl, p, rfl, ⟨_, h1⟩, fun D nD => lc_fm (walk_tup (a := p) (xs := ys.map V.str)) ys (fun z => if decide (z ∈ zs) = true then some (V.str z) else none) (by rw [List.length_map]) (by rw [List.length_map]; omega) nD (fun H s => sqT_same s h1) ?_ ?_⟩
    · rintro i u z H2 H2' R Rn hz s2 ⟨rfl, hu⟩ k1 k2
      obtain rfl : V.str z = u := by
        rw [List.getElem?_map, hz] at hu
        exact Option.some.inj hu
      refine ⟨rfl, _, rfl, _, rfl, q, _, rfl, .inr (sqT_same s2 h2), rfl, flat_strs _, _, rfl, ?_⟩
      rw [if_neg (by decide), strs_inV]
      by_cases h : z ∈ zs
      · exact iteA (decide_eq_true h) ⟨_, rfl, k1 _ _ (if_pos (decide_eq_true h)) (Same.refl _)⟩
      · exact iteB (decide_eq_false h) (k2 _ (if_neg (by simpa using h)) (Same.refl _))
    · intro H2 s2 eD
      rw [fm_strs] at eD
      refine .inl ⟨D, _, rfl, SqL.of eD, fun q nq => k q _ (s2.trans (same_new nq)) ?_ upd_same⟩
      cases z : H q with
      | none => rfl
      | some o => rw [s2 _ _ z] at nq; cases nq
end
end K6
set_option Elab.async false
set_option linter.all false
set_option maxRecDepth 100000
set_option maxHeartbeats 1500000
set_option pp.maxSteps 1200
set_option pp.deepTerms false
namespace K6
open PySem PySem.Spec PyProof.Rows L2 Lk
section
variable {P : Program} {w : World} {K : PySem.W.Frag} {mg : Str → Option Value} {base : Heap} {f : Addr} {fd : FuncData}
/-! ### either -/
def spEither (K : PySem.W.Frag) (C CN : Addr) : Sp := fun vs H Q E => ∃ (c : Addr) (ns : List Str) (v1 v2 : V) (d1 d2 : PyData), vs = [.ref c, v1, v2] ∧ CircAt K H C c ns ∧ NmOk ns ∧ VD K H v1 d1 ∧ VD K H v2 d2 ∧
  (∀ ys zs, d1 = .tuple (strsD ys) → d2 = .tuple (strsD zs) → ys.Sublist ns → zs.Sublist ns → ∀ r H', Same H H' → H r = none → H' r = some (.tup ((ns.filter fun y => decide (y ∈ ys ++ zs)).map V.str)) → Q (.ref r) H') ∧
  (¬ LotD ns d1 → ∀ x H', Same H H' → H x = none → H' x = some (.xd [("value", v1)]) → E (.ref CN) (some x) H') ∧
  (LotD ns d1 → ¬ LotD ns d2 → ∀ x H', Same H H' → H x = none → H' x = some (.xd [("value", v2)]) → E (.ref CN) (some x) H')
theorem scEither : FnScope ["circle", "one", "other"] ["circle", "one", "other"] (defScope sEither) := ⟨rfl, rfl, rfl, by decide +kernel, rfl, by decide +kernel, by decide +kernel⟩
theorem ok_either {C CN CM fC f1 f2 : Addr} {fd1 fd2 : FuncData} (F : Fun K "either" "either" sEither f fd) (CC : CircC K C fC)
    (G1 : FnOk P w K mg base (L2.CX P w) 3 f1 fd1 ["circle", "value"] (spRefLotX K C CN)) (a1 : At K mg "refuse_lot" f1 fd1 ["circle", "value"])
    (G2 : FnOk P w K mg base (L2.CX P w) 3 f2 fd2 ["self", "some"] (spCLot K C CM)) (hM : Meth K C "lot" f2) (b2 : Binds K fd2 ["self", "some"] []) :
    FnOk P w K mg base (L2.CX P w) 4 f fd ["circle", "one", "other"] (spEither K C CN) := by
  refine F.okX scEither (fun vs H Q E h => ?_) (fun cdv A outer s H vs Q E hr h => ?_)
  · obtain ⟨c, ns, v1, v2, d1, d2, rfl, _⟩ := h
    rfl
  · obtain ⟨c, ns, v1, v2, d1, d2, rfl, hc, nok, h1, h2, good, bad1, bad2⟩ := h
    refine ⟨_, pss_cons (ps_expr (pe_call G1 hr (by rfl) a1.m a1.kp a1.b .nil (passes_call (W := fun cls d _ H => E cls d H) (takes_of rfl rfl rfl rfl) (fun _ _ _ _ h => h)) (pa_cons (pv 0) (pa_cons (pv 1) pa_nil))))
      (pss_cons (ps_expr (pe_call G1 hr (by rfl) a1.m a1.kp a1.b .nil (passes_call (W := fun cls d _ H => E cls d H) (takes_of rfl rfl rfl rfl) (fun _ _ _ _ h => h)) (pa_cons (pv 0) (pa_cons (pv 2) pa_nil))))
      (pss_one (ps_ret (pe_meth (pv 0) CC.cls hM G2 hr b2 .nil (passes_call (W := fun cls d _ H => E cls d H) (takes_of rfl rfl rfl rfl) (fun _ _ _ _ h => h)) (pa_cons (pe_op op_catA (pv 1) (pv 2)) pa_nil))))), ?_⟩
    refine ⟨_, rfl, _, rfl, c, ns, v1, d1, rfl, hc, nok, h1, fun l1 H1 s1 => ?_, fun n1 => bad1 n1⟩
    refine ⟨_, rfl, _, rfl, c, ns, v2, d2, rfl, hc.same s1, nok, h2.same s1, fun l2 H2 s2 => ?_, fun n2 x H' s' nx e => bad2 l1 n2 x H' (s1.trans s') (same_none s1 nx) e⟩
    obtain ⟨ys, rfl, ysub⟩ := l1
    obtain ⟨zs, rfl, zsub⟩ := l2
    have s12 := s1.trans s2
    obtain ⟨q1, rfl, e1⟩ := lotD_val (ns := ns) (h1.same s12)
    obtain ⟨q2, rfl, e2⟩ := lotD_val (ns := ns) (h2.same s12)
    have y6 : ys.length ≤ 6 := Nat.le_trans ysub.length_le nok.k6
    have z6 : zs.length ≤ 6 := Nat.le_trans zsub.length_le nok.k6
    have hc2 := hc.same s12
    obtain ⟨cdx, nm, ec, en⟩ := id hc2
    have nR : Nice 100000 30 (.tuple (strsD (ys ++ zs))) := (nice_strs (n := 8) (m := 12) (fun z hz => (List.mem_append.mp hz).elim (fun h => nok.ok z (ysub.subset h)) fun h => nok.ok z (zsub.subset h)) (by rw [List.length_append]; omega)).mono (by decide) (by decide)
    have hin : ∀ z ∈ ys ++ zs, z ∈ ns := fun z hz => (List.mem_append.mp hz).elim (fun h => ysub.subset h) fun h => zsub.subset h
    have fin : ∀ (r : Addr) (H3 : Hp), Same H2 H3 → SqT K H3 r ((ys ++ zs).map V.str) → spCLot K C CM [.ref c, .ref r] H3 Q (fun cls d H => E cls d H) := fun r H3 s3 e3 =>
      ⟨c, ns, _, _, rfl, hc2.same s3, nok, .inl ⟨.tup e3 (dp_strs _), nR⟩, fun us hu _ r' H4 s4 nr er => by
        have := strsD_inj (PyData.tuple.inj hu)
        subst this
        exact good ys zs rfl rfl ysub zsub r' H4 ((s12.trans s3).trans s4) (same_none (s12.trans s3) nr) er, fun h => absurd ⟨_, rfl, hin⟩ h⟩
    refine ⟨_, rfl, c, cdx, _, rfl, ec, rfl, _, rfl, _, rfl, q1, q2, _, _, rfl, rfl, e1, e2, by rw [List.length_map, List.length_map, sizeLine_eq]; omega, fun e => ?_, fun _ e => ?_, fun _ _ p np => ?_⟩
    · have : ys = [] := List.map_eq_nil_iff.mp e
      subst this
      exact fin q2 H2 (Same.refl _) e2
    · have : zs = [] := List.map_eq_nil_iff.mp e
      subst this
      refine fin q1 H2 (Same.refl _) ?_
      rw [List.append_nil]
      exact e1
    · refine fin p _ (same_new np) ?_
      rw [List.map_append]
      exact SqT.of upd_same
end
end K6
set_option Elab.async false
set_option linter.all false
set_option maxRecDepth 100000
set_option maxHeartbeats 1500000
set_option pp.maxSteps 1200
set_option pp.deepTerms false
namespace K6
open PySem PySem.Spec PyProof.Rows L2 Lk
abbrev sCircEq : Stmt := inClass (top 9) 3
/-- isinstance(.., C) for objects of C -/
structure IsiC (K : PySem.W.Frag) (C : Addr) : Prop where
  ty : ∀ (H : Hp) (a dx : Addr) (fs : List (Str × V)), H a = some (.ins C dx fs) → TyX K H (.ref a) (.ref C)
  own : PySem.W.kitOne K (.ref C) (.ref C) = some true
section
variable {P : Program} {w : World} {K : PySem.W.Frag} {mg : Str → Option Value} {base : Heap} {f : Addr} {fd : FuncData}
/-! ### ring == .. -/
def spCircEq (K : PySem.W.Frag) (C : Addr) : Sp := fun vs H Q _ => ∃ (c : Addr) (ns : List Str) (y : V), vs = [.ref c, y] ∧ CircAt K H C c ns ∧ NmOk ns ∧
  ((∃ (c2 : Addr) (ms : List Str), y = .ref c2 ∧ CircAt K H C c2 ms ∧ NmOk ms ∧ Q (.bl (decide (ns = ms))) H) ∨ ∃ ty, TyX K H y ty ∧ PySem.W.kitOne K ty (.ref C) = some false ∧ Q (.bl false) H)
theorem scCircEq : FnScope ["self", "other"] ["self", "other"] (defScope sCircEq) := ⟨rfl, rfl, rfl, by decide +kernel, rfl, by decide +kernel, by decide +kernel⟩
theorem ok_circEq {C fC : Addr} (F : Fun K "__eq__" "Circle.__eq__" sCircEq f fd) (T : Bl mg) (CC : CircC K C fC) (IC : IsiC K C) (mC : mg "Circle" = some (.ref C)) : FnOk P w K mg base CX0 1 f fd ["self", "other"] (spCircEq K C) := by
  refine F.ok scCircEq (fun vs H Q E h => ?_) (fun cdv A outer s H vs Q E hr h => ?_)
  · obtain ⟨c, ns, y, rfl, _⟩ := h
    rfl
  · obtain ⟨c, ns, y, rfl, ⟨cdx, nm, ec, en⟩, nok, k⟩ := h
    refine ⟨_, pss_one (ps_ret (pe_and (pe_callB call_isi (by rfl) T.isin boot_isinstance (pa_cons (pv 1) (pa_cons (pe_glob (v := .ref C) (by rfl) mC rfl) pa_nil))) (pe_one (pe_cmpR (op_eqD (room64 hr)) (pe_fld (pv 0) rfl) (pe_fld (pv 1) rfl) (nomark _))))), ?_⟩
    rcases k with ⟨c2, ms, rfl, ⟨cdx2, nm2, ec2, en2⟩, nok2, k⟩ | ⟨ty, hty, hk, k⟩
    · refine ⟨_, rfl, _, _, _, _, true, rfl, .own _, IC.ty H c2 cdx2 _ ec2, IC.own, _, rfl, iteT ?_⟩
      have n1 := (nice_lot nok (List.Sublist.refl ns)).shaped (by decide)
      have n2 := (nice_lot nok2 (List.Sublist.refl ms)).shaped (by decide)
      refine ⟨_, rfl, c, C, cdx, _, .ref nm, rfl, ec, CC.cls, CC.nm, rfl, _, rfl, c2, C, cdx2, _, .ref nm2, rfl, ec2, CC.cls, CC.nm, rfl, .tuple (strsD ns), .tuple (strsD ms), .tup en.sq (dp_strs ns), .tup en2.sq (dp_strs ms), n1, n2, ?_⟩
      have e : PyData.eqv (.tuple (strsD ns)) (.tuple (strsD ms)) = decide (ns = ms) := by
        rw [Bool.eq_iff_iff, eqvD_strs, decide_eq_true_iff]
        exact ⟨fun h => strsD_inj (PyData.tuple.inj h), fun h => by rw [h]⟩
      rw [e]
      exact k
    · exact ⟨_, rfl, _, _, _, _, false, rfl, .own _, hty, hk, _, rfl, iteB rfl k⟩
end
end K6
set_option Elab.async false
set_option linter.all false
set_option maxRecDepth 100000
set_option maxHeartbeats 4000000
/-! set(x) of texts that may stand twice, its length. -/
namespace LkSd
open PySem PySem.Spec PyProof.Rows
section
variable {p : Program} {w : World} {A : Around} {R : Result → Shared → Prop} {I : Addr} {fp wr : List Addr} {G : Array GenState → Array GenState → Prop} {n : Nat} {P : Nat → Value → Prop} {St : Nat → Shared → Prop}
/-- how many unlike texts stand in front of place i -/
def cntS (zs : List Str) : Nat → Nat
  | 0 => 0
  | i + 1 => if (zs.take i).any (· == zs.getD i Str.empty) = true then cntS zs i else cntS zs i + 1
theorem cntS_le (zs : List Str) : ∀ i, cntS zs i ≤ i
  | 0 => Nat.le_refl _
  | i + 1 => by
    have := cntS_le zs i
    unfold cntS
    split <;> omega
theorem strs_put (W : WalksS p w A.in1 I fp wr G n P St) (S : Addr) (out : S ∉ fp) (zs : List Str) (sz : zs.length = n) (few : n + 1 < scanBound) (val : ∀ i v, P i v → ∃ t, v = .str (zs.getD i Str.empty) t) :
    ∀ (d i : Nat) (s : Shared), n - i = d → i ≤ n → St i s → s.heap.SetOf (strKind p w) S (fun y => (zs.take i).any (· == y)) (cntS zs i) →
      (∀ s2, Moved (S :: wr) G s s2 → s2.heap.SetOf (strKind p w) S (fun y => zs.any (· == y)) (cntS zs n) → R (.ok (.ret .none)) s2) → codeAny (model p w) A (.builtin "set.update.loop" ⟨[.ref S, .ref I], []⟩) R s := by
  have out2 : S ∉ wr := fun q => out (W.sub _ q)
  have wide : ∀ b ∈ wr, b ∈ S :: wr := fun b q => List.mem_cons_of_mem _ q
  intro d
  induction d with
  | zero =>
    intro i s ed hi st has fin
    obtain rfl : i = n := by omega
    refine codeAny_builtin F.entry_set_update_loop ?_; rw [Around.under_plainId F.plain_set_update_loop _]
    show wpAny _ A.in1 (pyNext (.ref I) >>= _) _ _ s; refine wpAny_bind (W.done s _ _ st fun s2 mv => ?_)
    show wpAny _ A.in1 (ret Value.none) _ _ s2
    have e : zs.take i = zs := List.take_of_length_le (by omega)
    rw [e] at has
    obtain ⟨o, es, ep, t, ho, more⟩ := has
    exact wpAny_pure (fin s2 (mv.mono wide) ⟨o, es, ep, t, mv.heap S _ out2 ho, more⟩)
  | succ d ih =>
    intro i s ed hi st has fin
    have lt : i < n := by omega
    refine codeAny_builtin F.entry_set_update_loop ?_; rw [Around.under_plainId F.plain_set_update_loop _]
    show wpAny _ A.in1 (pyNext (.ref I) >>= _) _ _ s; refine wpAny_bind (W.item i s _ _ lt st fun v s2 pv st2 mv => ?_)
    obtain ⟨t, rfl⟩ := val i v pv
    have has2 : s2.heap.SetOf (strKind p w) S (fun y => (zs.take i).any (· == y)) (cntS zs i) := by
      obtain ⟨o, es, ep, tb, ho, more⟩ := has
      exact ⟨o, es, ep, tb, mv.heap S _ out2 ho, more⟩
    show wpAny _ A.in1 (holding [Value.str (zs.getD i Str.empty) t] (setAdd S (.str (zs.getD i Str.empty) t)) >>= _) _ _ s2
    refine wpAny_bind (wpAny_holding ?_); unfold setAdd; refine wpAny_holding (wpAny_bind ((strKind p w).pyHash (k := zs.getD i Str.empty) (strKind_is _ _ _ _) ?_))
    refine wpAny_setAddHashed_of (knd := strKind p w) (s := { s2 with toks := s2.toks + 1 }) (strKind_is _ _ _ _) rfl has2 (by have := cntS_le zs i; omega) fun g same has3 => ?_
    have has4 : g.SetOf (strKind p w) S (fun y => (zs.take (i + 1)).any (· == y)) (cntS zs (i + 1)) := by
      have lt2 : i < zs.length := by omega
      refine SetOf_congr has3 (fun y => ?_) rfl
      rw [List.take_add_one, List.any_append, List.getD_eq_getElem?_getD, List.getElem?_eq_getElem lt2]
      simp only [Option.getD_some, Option.toList_some, List.any_cons, List.any_nil, Bool.or_false]
      congr 1
      by_cases q : y = zs[i]
      · simp [q]
      · have q2 : ¬ zs[i] = y := fun z => q z.symm
        simp [q, q2]
    refine wpAny_pure ⟨plainId_quiet F.plain_set_update_loop _, ih (i + 1) _ (by omega) lt (W.frame _ s2 _ _ st2 (Nat.le_succ _) fun b hb o e => ?_) has4 fun s3 mv3 has5 => ?_⟩
    · rw [same.2 b (fun q : b = S => out (by rw [← q]; exact hb))] <;> exact e
    · refine fin s3 (Moved.trans W.gtrans ((mv.mono wide).then_heap (Nat.le_succ _) fun b o nb e => ?_) mv3) has5
      rw [same.2 b (fun q : b = S => nb (by rw [q]; exact List.mem_cons_self))] <;> exact e
end
abbrev emptyS (led : Bool) : Obj := { cls := .type "set", dict := none, data := .set #[] 0 (.fresh 0 0 led) }
section
variable {p : Program} {w : World} {A : Around} {E : Value → Shared → Prop} {s : Shared}

set_option maxHeartbeats 8000000 in
/-- set(x), x a list of unlike texts -/
theorem set_of_list {l : Addr} {its : Array Value} {zs : List Str} {Q : Value → Shared → Prop} (calm : A.handled = none) (at_ : s.heap.IsList l its) (are : StrsAre its.toList zs) (few : zs.length + 1 < scanBound)
    (k : ∀ (g : Heap) (tk : Nat), g.SetOf (strKind p w) s.heap.objs.size (fun y => zs.any (· == y)) (cntS zs its.size) → (∀ b o, s.heap.get? b = some o → g.get? b = some o) → Q (.ref s.heap.objs.size) { s with heap := g, toks := tk }) : wpAny (model p w) A (call (.type "set") [.ref l]) Q E s := by
  obtain ⟨c0, c1, eMro⟩ := F.called_set.mro; have eMade := F.called_set.made; have eSub := F.called_set.sub
  refine wpAny_call (codeAny_of_tree ?_); show wpAny _ _ (callAny (.type "set") _) _ _ _
  refine wpAny_pure ⟨Code.quiet_builtin _ (by decide +kernel), codeAny_builtin F.entry_type_call ?_⟩; rw [Around.under_plain (weight_type_call_type "set" [.ref l] []) rfl]
  have e1 := F.called_set.notType; have e2 := F.called_set.canCreate; have e3 := F.typeCall_set_1 (.ref l)
  repeat (any_goals (first | assumption | wp_step))
  refine codeAny_mono (code_set_new_1 (.ref l) (E := E) (Q₁ := fun o s₁ => ∃ led, o = .ref s.heap.objs.size ∧ s₁ = { s with heap := s.heap.push (emptyS led) }) fun led => ⟨led, rfl, rfl⟩) fun r s₁ er => ?_
  match r, er with
  | .error _, er => exact er
  | .ok .next, er => exact er.elim
  | .ok .brk, er => exact er.elim
  | .ok .cont, er => exact er.elim
  | .ok (.ret o), ⟨led, e5, e6⟩ =>
    subst e5 e6
    have eS : (s.heap.push (emptyS led)).get? s.heap.objs.size = some (emptyS led) := Heap.get?_push_size _ rfl
    have eT : Shared.TypeIs { s with heap := s.heap.push (emptyS led) } (.ref s.heap.objs.size) "set" := ⟨_, eS, rfl⟩
    have e7 := F.called_set.init.lookup; have e8 := F.called_set.init.bind (.ref s.heap.objs.size)
    repeat (any_goals (first | assumption | wp_step))
    refine codeAny_mono (codeAny_call_builtin (R := wants (fun r s₂ => r = .none ∧ ∃ g tk, s₂ = { s with heap := g, toks := tk } ∧ g.SetOf (strKind p w) s.heap.objs.size (fun y => zs.any (· == y)) (cntS zs its.size) ∧ ∀ b o, s.heap.get? b = some o → g.get? b = some o) E) F.called_set.init.plain F.entry_set_init (check_set_init_1 eT ?_)) fun r₂ s₂ er₂ => ?_
    · obtain ⟨⟨cls, odc, odt, osl⟩, here, ecl, m, edt⟩ := at_
      simp only at ecl edt; subst ecl edt
      have here2 : (s.heap.push (emptyS led)).get? l = some { cls := .type "list", dict := odc, data := .seq its m, slots := osl } := Heap.get?_push_of_some _ here
      have f1 := F.sub_list_set; have f2 := F.sub_list_frozenset; have f3 : (Value.type "list" == Value.type "dict") = false := by decide
      have its1 : (s.heap.push (emptyS led)).IsList l its := ⟨_, here2, rfl, m, rfl⟩
      unfold Builtin.«set.__init__» noKeywords Builtin.Frozenset.updateFrom
      generalize eIter : pyIter = It
      wp_walk
      subst eIter
      refine wpAny_pyIter_list its1 (wpAny_bind (wpAny_runValue ?_))
      have lt : l < s.heap.objs.size := Heap.lt_size here
      have calm3 : A.in1.in1.in1.handled = none := by simp [calm]
      have ps : (s.heap.push (emptyS led)).objs.size = s.heap.objs.size + 1 := Heap.size_push ..
      have n1 : l ≠ (s.heap.push (emptyS led)).objs.size := by rw [ps]; exact Nat.ne_of_lt (Nat.lt_succ_of_lt lt)
      have n2 : s.heap.objs.size ∉ [(s.heap.push (emptyS led)).objs.size, l] := by simp only [List.mem_cons, List.not_mem_nil, or_false, not_or, ps]; exact ⟨Nat.ne_of_lt (Nat.lt_succ_self _), Nat.ne_of_gt lt⟩
      have sz : zs.length = its.size := by rw [← StrsAre.len_eq are, Array.length_toList]
      have eS2 : ((s.heap.push (emptyS led)).push { cls := .type "list_iterator", data := .fields #[.ref l, .int 0 0] }).get? s.heap.objs.size = some (emptyS led) := Heap.get?_push_of_some _ eS
      refine strs_put ((Walks.list calm3 _ l n1 its).toS) s.heap.objs.size n2 zs sz (by omega) (fun i v ev => SS.strs_at are i v (by rw [Array.getElem?_toList]; exact ev)) its.size 0 _ rfl (Nat.zero_le _) ⟨⟨_, Heap.get?_push_size _ rfl, rfl, rfl⟩, its1.push _⟩
        (SetOf_congr ((setObjOf_fresh (knd := strKind p w) led).setOf eS2 (by unfold scanBound; omega)) (fun _ => rfl) rfl) fun s3 mv S3 => ?_
      obtain ⟨g3, gs3, dr3, tk3, os3⟩ := s3
      obtain rfl : gs3 = s.gens := mv.gens; obtain rfl : dr3 = s.drawn := mv.drawn; obtain rfl : os3 = s.os := mv.os
      show wpAny _ _ _ _ _ _; refine wpAny_pure ?_
      show wpAny _ _ (ret Value.none) _ _ _; refine wpAny_pure ⟨rfl, g3, tk3, rfl, S3, fun b o e => ?_⟩
      have lb : b < s.heap.objs.size := Heap.lt_size e
      exact mv.heap b o (by simp only [List.mem_cons, List.not_mem_nil, or_false, not_or, ps]; exact ⟨Nat.ne_of_lt lb, Nat.ne_of_lt (Nat.lt_succ_of_lt lb)⟩) (Heap.get?_push_of_some _ (Heap.get?_push_of_some _ e))
    · match r₂, er₂ with
      | .error _, er₂ => exact er₂
      | .ok .next, er₂ => exact er₂.elim
      | .ok .brk, er₂ => exact er₂.elim
      | .ok .cont, er₂ => exact er₂.elim
      | .ok (.ret _), ⟨e9, g, tk, e10, S9, k9⟩ =>
        subst e9 e10
        repeat (any_goals (first | assumption | wp_step))
        exact k _ _ S9 k9

set_option maxHeartbeats 8000000 in
/-- set(x), x a tuple of unlike texts -/
theorem set_of_tuple {l : Addr} {its : Array Value} {zs : List Str} {Q : Value → Shared → Prop} (calm : A.handled = none) (at_ : s.heap.IsTuple l its) (are : StrsAre its.toList zs) (few : zs.length + 1 < scanBound)
    (k : ∀ (g : Heap) (tk : Nat), g.SetOf (strKind p w) s.heap.objs.size (fun y => zs.any (· == y)) (cntS zs its.size) → (∀ b o, s.heap.get? b = some o → g.get? b = some o) → Q (.ref s.heap.objs.size) { s with heap := g, toks := tk }) : wpAny (model p w) A (call (.type "set") [.ref l]) Q E s := by
  obtain ⟨c0, c1, eMro⟩ := F.called_set.mro; have eMade := F.called_set.made; have eSub := F.called_set.sub
  refine wpAny_call (codeAny_of_tree ?_); show wpAny _ _ (callAny (.type "set") _) _ _ _
  refine wpAny_pure ⟨Code.quiet_builtin _ (by decide +kernel), codeAny_builtin F.entry_type_call ?_⟩; rw [Around.under_plain (weight_type_call_type "set" [.ref l] []) rfl]
  have e1 := F.called_set.notType; have e2 := F.called_set.canCreate; have e3 := F.typeCall_set_1 (.ref l)
  repeat (any_goals (first | assumption | wp_step))
  refine codeAny_mono (code_set_new_1 (.ref l) (E := E) (Q₁ := fun o s₁ => ∃ led, o = .ref s.heap.objs.size ∧ s₁ = { s with heap := s.heap.push (emptyS led) }) fun led => ⟨led, rfl, rfl⟩) fun r s₁ er => ?_
  match r, er with
  | .error _, er => exact er
  | .ok .next, er => exact er.elim
  | .ok .brk, er => exact er.elim
  | .ok .cont, er => exact er.elim
  | .ok (.ret o), ⟨led, e5, e6⟩ =>
    subst e5 e6
    have eS : (s.heap.push (emptyS led)).get? s.heap.objs.size = some (emptyS led) := Heap.get?_push_size _ rfl
    have eT : Shared.TypeIs { s with heap := s.heap.push (emptyS led) } (.ref s.heap.objs.size) "set" := ⟨_, eS, rfl⟩
    have e7 := F.called_set.init.lookup; have e8 := F.called_set.init.bind (.ref s.heap.objs.size)
    repeat (any_goals (first | assumption | wp_step))
    refine codeAny_mono (codeAny_call_builtin (R := wants (fun r s₂ => r = .none ∧ ∃ g tk, s₂ = { s with heap := g, toks := tk } ∧ g.SetOf (strKind p w) s.heap.objs.size (fun y => zs.any (· == y)) (cntS zs its.size) ∧ ∀ b o, s.heap.get? b = some o → g.get? b = some o) E) F.called_set.init.plain F.entry_set_init (check_set_init_1 eT ?_)) fun r₂ s₂ er₂ => ?_
    · obtain ⟨⟨cls, odc, odt, osl⟩, here, ecl, m, edt⟩ := at_
      simp only at ecl edt; subst ecl edt
      have here2 : (s.heap.push (emptyS led)).get? l = some { cls := .type "tuple", dict := odc, data := .seq its m, slots := osl } := Heap.get?_push_of_some _ here
      have f1 := F.sub_tuple_set; have f2 := F.sub_tuple_frozenset; have f3 : (Value.type "tuple" == Value.type "dict") = false := by decide
      have its1 : (s.heap.push (emptyS led)).IsTuple l its := ⟨_, here2, rfl, m, rfl⟩
      unfold Builtin.«set.__init__» noKeywords Builtin.Frozenset.updateFrom
      generalize eIter : pyIter = It
      wp_walk
      subst eIter
      refine wpAny_pyIter_tuple its1 (wpAny_bind (wpAny_runValue ?_))
      have lt : l < s.heap.objs.size := Heap.lt_size here
      have calm3 : A.in1.in1.in1.handled = none := by simp [calm]
      have ps : (s.heap.push (emptyS led)).objs.size = s.heap.objs.size + 1 := Heap.size_push ..
      have n1 : l ≠ (s.heap.push (emptyS led)).objs.size := by rw [ps]; exact Nat.ne_of_lt (Nat.lt_succ_of_lt lt)
      have n2 : s.heap.objs.size ∉ [(s.heap.push (emptyS led)).objs.size, l] := by simp only [List.mem_cons, List.not_mem_nil, or_false, not_or, ps]; exact ⟨Nat.ne_of_lt (Nat.lt_succ_self _), Nat.ne_of_gt lt⟩
      have sz : zs.length = its.size := by rw [← StrsAre.len_eq are, Array.length_toList]
      have eS2 : ((s.heap.push (emptyS led)).push { cls := .type "tuple_iterator", data := .fields #[.ref l, .int 0 0] }).get? s.heap.objs.size = some (emptyS led) := Heap.get?_push_of_some _ eS
      refine strs_put ((Walks.tuple calm3 _ l n1 its).toS) s.heap.objs.size n2 zs sz (by omega) (fun i v ev => SS.strs_at are i v (by rw [Array.getElem?_toList]; exact ev)) its.size 0 _ rfl (Nat.zero_le _) ⟨⟨_, Heap.get?_push_size _ rfl, rfl, rfl⟩, its1.push _⟩
        (SetOf_congr ((setObjOf_fresh (knd := strKind p w) led).setOf eS2 (by unfold scanBound; omega)) (fun _ => rfl) rfl) fun s3 mv S3 => ?_
      obtain ⟨g3, gs3, dr3, tk3, os3⟩ := s3
      obtain rfl : gs3 = s.gens := mv.gens; obtain rfl : dr3 = s.drawn := mv.drawn; obtain rfl : os3 = s.os := mv.os
      show wpAny _ _ _ _ _ _; refine wpAny_pure ?_
      show wpAny _ _ (ret Value.none) _ _ _; refine wpAny_pure ⟨rfl, g3, tk3, rfl, S3, fun b o e => ?_⟩
      have lb : b < s.heap.objs.size := Heap.lt_size e
      exact mv.heap b o (by simp only [List.mem_cons, List.not_mem_nil, or_false, not_or, ps]; exact ⟨Nat.ne_of_lt lb, Nat.ne_of_lt (Nat.lt_succ_of_lt lb)⟩) (Heap.get?_push_of_some _ (Heap.get?_push_of_some _ e))
    · match r₂, er₂ with
      | .error _, er₂ => exact er₂
      | .ok .next, er₂ => exact er₂.elim
      | .ok .brk, er₂ => exact er₂.elim
      | .ok .cont, er₂ => exact er₂.elim
      | .ok (.ret _), ⟨e9, g, tk, e10, S9, k9⟩ =>
        subst e9 e10
        repeat (any_goals (first | assumption | wp_step))
        exact k _ _ S9 k9
end
end LkSd
namespace Lk
open PySem PySem.Spec PyProof.Rows L2
/-- len(set(x)), x a list or a tuple of texts -/
def tLenSetC (K : PySem.W.Frag) (ta : TE) : TE := fun σ H Q => ta σ H fun x H1 => ∃ l, ∃ zs : List Str, x = .ref l ∧ Sq K H1 l (zs.map V.str) ∧ zs.length ≤ 1000 ∧ Q (.int (LkSd.cntS zs zs.length)) H1
theorem pe_lenSetC {X : Cx} {a : Expr} {ta : TE} {u1 u2 u3 pos : Pos} (hc : X.calm = true) (hg : Gl X "len") (hm : X.mg "len" = none) (hg2 : Gl X "set") (hm2 : X.mg "set" = none) (ha : PE X a ta)
    (na : starEach [a] X.env = (false, eval a X.env) :: starEach [] X.env := by rfl) : PE X (.Call (.Name "len" u1) [.Call (.Name "set" u2) [a] [] u3] [] pos) (tLenSetC X.K ta) := by
  refine ⟨fun pins s σ H Q I h => Call_ (ld_blt I hg hm boot_len (callWith_builtin1 (args_cons ?_ rfl) rfl rfl))⟩
  refine Call_ (ld_blt I hg2 hm2 boot_set (callWith_type1 (args_cons (thn (ha.run pins s σ H _ I h) fun v s1 ⟨x, H1, I1, r1, q1⟩ => args_nil ?_) na) na rfl))
  obtain ⟨l, zs, rfl, sq, few, q1⟩ := q1
  cases r1
  have lb : zs.length + 1 < scanBound := by unfold scanBound; omega
  have go : ∀ (its : List Value), Vals (zs.map V.str) its → ∀ (g : Heap) (tk : Nat), g.SetOf (strKind X.prog X.w) s1.heap.objs.size (fun y => zs.any (· == y)) (LkSd.cntS zs its.toArray.size) → (∀ b o, s1.heap.get? b = some o → g.get? b = some o) →
      wpAny (model X.prog X.w) X.A (spliced (backTo pos (starEach [] X.env))) (fun vs s₂ => wpAny (model X.prog X.w) X.A (call (.builtin "len") (Value.ref s1.heap.objs.size :: vs)) (EP X pins σ Q) X.xe s₂) X.xe { s1 with heap := g, toks := tk } := fun its r g tk has keep => by
    refine args_nil ?_
    have sz : its.toArray.size = zs.length := by rw [List.size_toArray, ← r.length, List.length_map]
    rw [sz] at has
    obtain ⟨o, es, ep, t, ho, hex, hd, _, _, _, hf, hn⟩ := has
    have I2 : Inv X pins σ H1 { s1 with heap := g, toks := tk } := I1.kept fun b o e => keep b o e
    exact call_len_set ho hex hd hf (by have := LkSd.cntS_le zs zs.length; rw [hn] <;> unfold scanBound at lb <;> omega) ⟨.int (LkSd.cntS zs zs.length), H1, I2.tok _, ⟨_, by rw [hn]⟩, q1⟩
  rcases sq with sq | sq
  · obtain ⟨its, r, pl, _⟩ := I1.list sq
    exact LkSd.set_of_list (I1.ok.hd hc) pl.isList (by simpa using strsAre_of r) lb fun g tk has keep => go its r g tk has keep
  · obtain ⟨its, r, pl, _⟩ := I1.tuple sq
    exact LkSd.set_of_tuple (I1.ok.hd hc) pl (by simpa using strsAre_of r) lb fun g tk has keep => go its r g tk has keep
theorem cnt_take (zs : List Str) : ∀ i, i ≤ zs.length → (LkSd.cntS zs i = i ↔ (zs.take i).Nodup)
  | 0, _ => by simp [LkSd.cntS]
  | i + 1, h => by
    have ih := cnt_take zs i (by omega)
    have le := LkSd.cntS_le zs i
    have e : zs.getD i Str.empty = zs[i] := by simp [List.getD_eq_getElem?_getD, show i < zs.length by omega]
    have et : zs.take (i + 1) = zs.take i ++ [zs[i]] := by rw [List.take_add_one, List.getElem?_eq_getElem (by omega)]; rfl
    rw [show LkSd.cntS zs (i + 1) = if (zs.take i).any (· == zs.getD i Str.empty) = true then LkSd.cntS zs i else LkSd.cntS zs i + 1 from rfl, et, List.nodup_append, e]
    by_cases m : zs[i] ∈ zs.take i
    · rw [if_pos (List.any_eq_true.mpr ⟨_, m, by simp⟩)]
      constructor
      · intro h
        omega
      · rintro ⟨_, _, h⟩
        exact absurd rfl (h _ m _ (List.mem_singleton.mpr rfl))
    · rw [if_neg (by
        intro q
        obtain ⟨y, hy, q⟩ := List.any_eq_true.mp q
        have : y = zs[i] := by simpa using q
        exact m (this ▸ hy))]
      constructor
      · intro h
        exact ⟨ih.mp (by omega), by simp, fun a ha b hb e => m (by rw [List.mem_singleton.mp hb] at e; exact e ▸ ha)⟩
      · rintro ⟨h, _, _⟩
        have := ih.mpr h
        omega
/-- as many as it is long just where none stands twice -/
theorem cnt_nodup (zs : List Str) : LkSd.cntS zs zs.length = zs.length ↔ zs.Nodup := by
  have := cnt_take zs zs.length (Nat.le_refl _)
  rwa [List.take_length] at this
end Lk
set_option Elab.async false
set_option linter.all false
set_option maxRecDepth 100000
set_option maxHeartbeats 1500000
set_option pp.maxSteps 1200
set_option pp.deepTerms false
namespace K6
open PySem PySem.Spec PyProof.Rows L2 Lk
section
variable {P : Program} {w : World} {K : PySem.W.Frag} {mg : Str → Option Value} {base : Heap} {f : Addr} {fd : FuncData}
/-! ### are_names, of any tuple -/
def spAreNamesV (K : PySem.W.Frag) : Sp := fun vs H Q _ => ∃ (q : Addr) (xs : List V) (ds : List PyData), vs = [.ref q] ∧ SqT K H q xs ∧ DpAll K H xs ds ∧ Nice 100000 30 (.tuple ds) ∧ ds.length ≤ 1000 ∧
  ∀ (b : Bool) (H' : Hp), Same H H' → (b = true ↔ ∃ zs, ds = strsD zs ∧ (∀ z ∈ zs, LowOk z) ∧ zs.Nodup) → Q (.bl b) H'
theorem ok_areNamesV {f1 : Addr} {fd1 : FuncData} (F : Fun K "are_names" "are_names" sAreNames f fd) (T : Bl mg) (C : Cn mg) (G1 : FnOk P w K mg base CX0 1 f1 fd1 ["value"] (spIsNameV K)) (a1 : At K mg "is_name" f1 fd1 ["value"]) :
    FnOk P w K mg base CX0 2 f fd ["some"] (spAreNamesV K) := by
  refine F.ok scAreNames (fun vs H Q E h => ?_) (fun cdv A outer s H vs Q E hr h => ?_)
  · obtain ⟨q, xs, ds, rfl, _⟩ := h
    rfl
  · obtain ⟨q, xs, ds, rfl, hs, ha, nn, dl, k⟩ := h
    have nd := scAreNames.nd
    refine ⟨_, pss_one (ps_ret (pe_and (pe_callB (cr_all rfl) (by rfl) T.all boot_all (pa_cons (pe_lc (own := [("name", 1)]) (g := gName 1) (tt := tYes) (te := tCall (spIsNameV K) [] E0 (tCons (tVar 1) tNil)) rfl nd (pi_tup (pv 0))
        (blkOk_by (N := ["some", "name"]) (sc := defScope sAreNames) (by decide +kernel)) (fun _ _ _ _ _ => pg_name (i := 1) nd rfl (Or.inl rfl)) (fun _ _ _ _ _ => pts_nil) (fun _ _ _ _ _ => pe_call G1 hr (by rfl) a1.m a1.kp a1.b .nil pass0 (pa_cons (pv 1) pa_nil))) pa_nil))
      (pe_one (pe_cmpR op_eq (pe_lenSetC rfl (by rfl) T.len (by rfl) C.set (pv 0)) (pe_callB call_len_seq (by rfl) T.len PySem.boot_len (pa_cons (pv 0) pa_nil)) (nomark _))))), ?_⟩
    obtain ⟨ps, e1, e2, e3⟩ := dpAll_zip ha
    have pl : ps.length = ds.length := by rw [← e2, List.length_map]
    have xl := DpAll.len ha
    obtain ⟨isN, hN⟩ : ∃ isN : PyData → Bool, ∀ d, isN d = true ↔ ∃ z, d = .str z ∧ LowOk z := ⟨fun d => match d with | .str z => decide (LowOk z) | _ => false, fun d => by cases d <;> simp⟩
    refine ⟨_, rfl, q, rfl, ⟨_, hs⟩, all_over (walk_tup (a := q) (xs := xs)) ps (·.1) (fun z => isN z.2) e1.symm (by omega) (fun H s => sqT_same s hs) ?_ ?_⟩
    · rintro i ⟨v0, d0⟩ H6 R hb s6 kk
      have hm := List.mem_of_getElem? hb
      have hd := e3 _ hm
      have n0 := nice_item nn d0 (by rw [← e2]; exact List.mem_map.mpr ⟨_, hm, rfl⟩)
      refine ⟨rfl, _, rfl, v0, d0, rfl, .inl ⟨Dp.same s6 hd, n0⟩, fun b H7 s7 hb => ?_⟩
      have : b = isN d0 := by rw [Bool.eq_iff_iff, hb, hN]
      rw [this]
      exact kk _ s7
    · intro H6 s6
      refine ⟨_, rfl, ?_⟩
      by_cases ea : (ps.all fun z => isN z.2) = true
      case neg =>
        rw [Bool.not_eq_true] at ea
        rw [ea]
        refine iteB rfl (k false _ s6 ⟨(fun h => by cases h), fun ⟨zs, h, hl, _⟩ => ?_⟩)
        have : (ps.all fun z => isN z.2) = true := List.all_eq_true.mpr fun z hz => by
          have hz2 : z.2 ∈ ds := by rw [← e2]; exact List.mem_map.mpr ⟨z, hz, rfl⟩
          rw [h] at hz2
          obtain ⟨y, hy, e⟩ := List.mem_map.mp hz2
          exact (hN _).mpr ⟨y, e.symm, hl y hy⟩
        rw [this] at ea
        cases ea
      rw [ea]
      have each : ∀ d ∈ ds, ∃ z, d = .str z ∧ LowOk z := fun d hd => by
        rw [← e2] at hd
        obtain ⟨z, hz, rfl⟩ := List.mem_map.mp hd
        exact (hN _).mp (List.all_eq_true.mp ea z hz)
      obtain ⟨zs, rfl⟩ := all_strB (ds := ds) fun d hd => by
        obtain ⟨z, rfl, _⟩ := each d hd
        rfl
      have low : ∀ z ∈ zs, LowOk z := fun z hz => by
        obtain ⟨y, e, hy⟩ := each (.str z) (List.mem_map.mpr ⟨z, hz, rfl⟩)
        cases e
        exact hy
      obtain rfl := dp_strs_inv ha
      have zl : zs.length ≤ 1000 := by
        have : (strsD zs).length = zs.length := by unfold strsD; rw [List.length_map]
        omega
      refine iteT ⟨_, rfl, q, zs, rfl, .inr (sqT_same s6 hs), zl, _, rfl, q, _, rfl, .inr (sqT_same s6 hs), rfl, k _ _ s6 ?_⟩
      rw [decide_eq_true_iff, List.length_map]
      have cn := cnt_nodup zs
      constructor
      · intro h
        have := V.int.inj h
        exact ⟨zs, rfl, low, cn.mp (by omega)⟩
      · rintro ⟨ys, h, _, hy⟩
        obtain rfl := strsD_inj h
        rw [cn.mpr hy]
end
end K6
set_option Elab.async false
set_option linter.all false
set_option maxRecDepth 100000
set_option maxHeartbeats 1500000
set_option pp.maxSteps 1200
set_option pp.deepTerms false
namespace K6
open PySem PySem.Spec PyProof.Rows L2 Lk
/-- names of a circle, as data -/
def RingD (d : PyData) : Prop := ∃ zs, d = .tuple (strsD zs) ∧ 2 ≤ zs.length ∧ zs.length ≤ 6 ∧ (∀ z ∈ zs, LowOk z) ∧ zs.Nodup
section
variable {P : Program} {w : World} {K : PySem.W.Frag} {mg : Str → Option Value} {base : Heap} {f : Addr} {fd : FuncData}
/-! ### Circle.__init__, of any value -/
def spCircX (K : PySem.W.Frag) (C CN : Addr) : Sp := fun vs H Q E => ∃ (x dx : Addr) (v : V) (d : PyData), vs = [.ref x, v] ∧ H x = some (.ins C dx []) ∧ VD K H v d ∧
  (∀ zs, d = .tuple (strsD zs) → 2 ≤ zs.length → zs.length ≤ 6 → (∀ z ∈ zs, LowOk z) → zs.Nodup → ∀ H', (∀ b o, b ≠ x → H b = some o → H' b = some o) → H' x = some (.ins C dx [("names", v)]) → Q .non H') ∧
  (¬ RingD d → ∀ y H', Same H H' → H y = none → H' y = some (.xd [("value", v)]) → E (.ref CN) (some y) H')
theorem ok_circX {C CN fC fI f2 : Addr} {fdI fd2 : FuncData} (F : Fun K "__init__" "Circle.__init__" sCircInit f fd) (T : Bl mg) (Cc : Cn mg) (CC : CircC K C fC) (TE : ErC K CN fI) (TK : ErK K fI) (mU : mg "BadNames" = some (.ref CN))
    (GI : FnOk P w K mg base CX0 1 fI fdI ["self", "value"] (spInitV K fI)) (bI : Binds K fdI ["self", "value"] [])
    (G2 : FnOk P w K mg base CX0 2 f2 fd2 ["some"] (spAreNamesV K)) (a2 : At K mg "are_names" f2 fd2 ["some"]) :
    FnOk P w K mg base (L2.CX P w) 3 f fd ["self", "names"] (spCircX K C CN) := by
  refine F.okX scCircI (fun vs H Q E h => ?_) (fun cdv A outer s H vs Q E hr h => ?_)
  · obtain ⟨x, dx, v, d, rfl, _⟩ := h
    rfl
  · obtain ⟨x, dx, v, d, rfl, hx, hv, good, bad⟩ := h
    have nd := scCircI.nd
    refine ⟨_, pss_cons (ps_if (PW.pt (pw_or (pt_not (pt_val (pe_callB call_isi (by rfl) T.isin boot_isinstance (pa_cons (pv 1) (pa_cons (pe_bltn (v := .ty "tuple") (by rfl) Cc.tuple rfl rfl) pa_nil)))))
        (pw_or (pt_not (pt_chain op_le op_le pe_int (pe_callB call_len_seq (by rfl) T.len PySem.boot_len (pa_cons (pv 1) pa_nil)) pe_int))
        (pw_or1 (pt_not (pt_val (pe_call G2 hr (by rfl) a2.m a2.kp a2.b .nil pass0 (pa_cons (pv 1) pa_nil)))))))) (pss_one (ps_raise rfl (takes_of rfl rfl rfl rfl) (pmk_oex TE.oex TE.init TK.fn GI (hr.mono (by decide)) bI .nil pass0 (by rfl) mU (pa_cons (pv 1) pa_nil)))) pss_nil)
      (pss_one (ps_fld (pv 0) (pv 1) rfl)), ?_⟩
    obtain ⟨t, ty, kt, _⟩ := vd_isi hv
    refine ⟨_, rfl, _, _, t, _, isTupB d, rfl, .ty _, ty, kt, _, rfl, ?_⟩
    cases e : isTupB d with
    | false =>
      refine iteA rfl ⟨_, rfl, ?_⟩
      exact made_oex TE fun y H' s4 nx ex => bad (fun ⟨zs, h, _⟩ => by rw [h] at e; cases e) y H' s4 nx ex
    | true =>
    obtain ⟨q, xs, ds, rfl, rfl, hs, ha, nn⟩ := vd_tup hv e
    have xl := DpAll.len ha
    have sl : ∀ zs : List Str, (strsD zs).length = zs.length := fun zs => by unfold strsD; rw [List.length_map]
    refine iteB rfl ⟨_, rfl, q, xs, rfl, .inr hs, _, _, rfl, rfl, _, rfl, ?_⟩
    by_cases l2 : 2 ≤ xs.length
    case neg =>
      refine iteB (decide_eq_false (by omega)) ⟨_, rfl, iteA rfl ⟨_, rfl, ?_⟩⟩
      exact made_oex TE fun y H' s4 nx ex => bad (fun ⟨zs, h, h2, _⟩ => by
        have := sl zs
        rw [PyData.tuple.inj h] at xl
        omega) y H' s4 nx ex
    refine iteA (decide_eq_true (by omega)) ⟨_, _, rfl, rfl, _, rfl, ?_⟩
    by_cases l6 : xs.length ≤ 6
    case neg =>
      refine iteA (by rw [decide_eq_false (by omega)]; rfl) ⟨_, rfl, ?_⟩
      exact made_oex TE fun y H' s4 nx ex => bad (fun ⟨zs, h, _, h6, _⟩ => by
        have := sl zs
        rw [PyData.tuple.inj h] at xl
        omega) y H' s4 nx ex
    refine iteB (by rw [decide_eq_true (by omega)]; rfl) ?_
    refine ⟨_, rfl, q, xs, ds, rfl, hs, ha, nn, by omega, fun b H1 s1 hb => ⟨_, rfl, ?_⟩⟩
    cases b with
    | false =>
      refine iteA rfl ⟨_, rfl, ?_⟩
      exact made_oex TE fun y H' s4 nx ex => bad (fun ⟨zs, h, _, _, low, ndz⟩ => absurd (hb.mpr ⟨zs, PyData.tuple.inj h, low, ndz⟩) (by decide)) y H' (s1.trans s4) (same_none s1 nx) ex
    | true =>
      obtain ⟨zs, rfl, low, ndz⟩ := hb.mp rfl
      have := sl zs
      refine iteB rfl ⟨_, rfl, _, rfl, x, C, dx, [], rfl, s1 _ _ hx, CC.cls, CC.nm, by decide, ?_⟩
      exact good zs rfl (by omega) (by omega) low ndz _ (fun b o nb e => by rw [upd_ne nb]; exact s1 _ _ e) upd_same
end
end K6
set_option Elab.async false
set_option linter.all false
set_option maxRecDepth 100000
set_option maxHeartbeats 1500000
set_option pp.maxSteps 1200
set_option pp.deepTerms false
namespace K6
open PySem PySem.Spec PyProof.Rows L2 Lk
abbrev sLAreNames : Stmt := top 32
theorem joinL_nil : ∀ xs : List (List Nat), TL.joinL [] xs = xs.flatten
  | [] => rfl
  | [p] => by simp [TL.joinL]
  | p :: q :: r => by
    have ih := joinL_nil (q :: r)
    show p ++ ([] ++ TL.joinL [] (q :: r)) = _
    rw [ih]
    rfl
theorem join_nil (xs : List Str) : TL.tl (Txt.join "" xs) = (xs.map TL.tl).flatten := by
  rw [show Txt.join "" xs = Str.join "" xs from StrLaws.glued_eq_join _ _, TL.tl_join]
  exact joinL_nil _
/-- all([q(c) for c in text]) -/
theorem str_all {z : Str} {K : PySem.W.Frag} {g : TG} {te : TE} {vs : List Nat} {σ : L2.St} {H1 : Hp} {R : VK} (q : Nat → Bool) (few : z.cps.toList.length ≤ 100000)
    (hs : ∀ (i : Nat) c H (R' : VK), z.cps.toList[i]? = some c → Same H1 H → (∀ H4, Same H H4 → R' (.bl (q c)) H4) → g (.str ⟨#[c]⟩) (wipe σ vs) H fun σ2 H2 => wipe σ2 vs = wipe σ vs ∧ te σ2 H2 R')
    (hd : ∀ H, Same H1 H → R (.bl (z.cps.toList.all q)) H) : LcR (Its z) g tYes te vs σ H1 fun x H2 => tNil σ H2 fun xs H3 => rAll K (x :: xs) H3 R := by
  refine str_lc (Q := fun x H2 => rAll K [x] H2 R) (fun x => some (.bl (q x))) few (fun i b H R' Rn hb s k1 k2 => ?_) fun D H nD s ed => ?_
  · have z := hs i b H R' hb s fun H4 s4 => k1 H4 _ rfl s4
    have ty : (fun (σ2 : L2.St) H2 => wipe σ2 vs = wipe σ vs ∧ tYes σ2 H2 fun c H3 => if c = true then te σ2 H3 R' else Rn H3) = (fun σ2 H2 => wipe σ2 vs = wipe σ vs ∧ te σ2 H2 R') := by
      funext σ2 H2
      exact congrArg (And _) (tYes_if σ2 H2 (fun H3 => te σ2 H3 _) _)
    rw [ty]
    exact z
  · rw [fm_bl] at ed
    refine ⟨D, _, rfl, SqL.of ed, ?_⟩
    have : (z.cps.toList.map q).all id = z.cps.toList.all q := by simp [List.all_map]
    rw [this]
    exact hd H s
section
variable {P : Program} {w : World} {K : PySem.W.Frag} {mg : Str → Option Value} {base : Heap} {f : Addr} {fd : FuncData}
/-! ### _law_are_names, of any value -/
def spLAreNames (K : PySem.W.Frag) : Sp := fun vs H Q _ => ∃ (v : V) (d : PyData), vs = [v] ∧ VD K H v d ∧ ∀ (b : Bool) (H' : Hp), Same H H' → (b = true ↔ RingD d) → Q (.bl b) H'
theorem scLAreNames : FnScope ["value", "name", "letter"] ["value"] (defScope sLAreNames) := ⟨rfl, rfl, rfl, by decide +kernel, rfl, by decide +kernel, by decide +kernel⟩
def rLtB : R2 := rI0 fun i j => .bl (decide (i < j))
def rLenStr : List V → Hp → VK → Prop := fun xs H Q => ∃ z : Str, xs = [.str z] ∧ z.length ≤ sizeLine ∧ Q (.int z.length) H
theorem ok_lAreNames (F : Fun K "_law_are_names" "_law_are_names" sLAreNames f fd) (T : Bl mg) (Cc : Cn mg) : FnOk P w K mg base CX0 1 f fd ["value"] (spLAreNames K) := by
  refine F.ok scLAreNames (fun vs H Q E h => ?_) (fun cdv A outer s H vs Q E hr h => ?_)
  · obtain ⟨v, d, rfl, _⟩ := h
    rfl
  · obtain ⟨v, d, rfl, hv, k⟩ := h
    have nd := scLAreNames.nd
    refine ⟨_, pss_cons (ps_if (PW.pt (pw_or (pt_not (pt_val (pe_callB call_isi (by rfl) T.isin boot_isinstance (pa_cons (pv 0) (pa_cons (pe_bltn (v := .ty "tuple") (by rfl) Cc.tuple rfl rfl) pa_nil)))))
          (pw_or (pt_not (pt_chain op_lt op_lt pe_int (pe_callB call_len_seq (by rfl) T.len PySem.boot_len (pa_cons (pv 0) pa_nil)) pe_int))
          (pw_or1 (pt_not (pt_val (pe_callB (cr_all rfl) (by rfl) T.all boot_all (pa_cons (pe_lc (own := [("name", 1)]) (g := gName 1) (tt := tYes) (te := tCB (rIsi K) (tCons (tVar 1) (tCons (tC (.ty "str")) tNil))) rfl nd (pi_tup (pv 0))
            (blkOk_by (N := ["value", "name", "letter"]) (sc := defScope sLAreNames) (by decide +kernel)) (fun _ _ _ _ _ => pg_name (i := 1) nd rfl (.inl rfl)) (fun _ _ _ _ _ => pts_nil)
            (fun _ _ _ _ _ => pe_callB call_isi (by rfl) T.isin boot_isinstance (pa_cons (pv 1) (pa_cons (pe_bltn (v := .ty "str") (by rfl) Cc.str rfl rfl) pa_nil)))) pa_nil)))))))) (pss_one (ps_ret pe_bl)) pss_nil)
      (pss_cons (ps_if (pt_not (pt_val (pe_callB (cr_all rfl) (by rfl) T.all boot_all (pa_cons (pe_lc (own := [("name", 1)]) (g := gName 1) (tt := tYes) (te := tChain (rI0 fun i j => .bl (decide (i < j))) (rI0 fun i j => .bl (decide (i < j))) (tC (.int 0)) (tCB rLenStr (tCons (tVar 1) tNil)) (tC (.int 9))) rfl nd (pi_tup (pv 0))
            (blkOk_by (N := ["value", "name", "letter"]) (sc := defScope sLAreNames) (by decide +kernel)) (fun _ _ _ _ _ => pg_name (i := 1) nd rfl (.inl rfl)) (fun _ _ _ _ _ => pts_nil)
            (fun _ _ _ _ _ => pe_chain op_lt op_lt pe_int (pe_callB call_len_str (by rfl) T.len PySem.boot_len (pa_cons (pv 1) pa_nil)) pe_int)) pa_nil)))) (pss_one (ps_ret pe_bl)) pss_nil)
      (pss_cons (ps_if (pt_not (pt_val (pe_callB (cr_all rfl) (by rfl) T.all boot_all (pa_cons (pe_lc (own := [("letter", 2)]) (g := gName 2) (tt := tYes) (te := tOp (fun x y H Q => ∃ (c : Nat) (z : Str), x = .str ⟨#[c]⟩ ∧ y = .str z ∧ Q (.bl (decide (c ∈ z.cps.toList))) H) (tVar 2) (tC (.str LETTERS))) rfl nd (pi_str (pe_join pe_str (pv 0)))
            (blkOk_by (N := ["value", "name", "letter"]) (sc := defScope sLAreNames) (by decide +kernel)) (fun _ _ _ _ _ => pg_name (i := 2) nd rfl (.inl rfl)) (fun _ _ _ _ _ => pts_nil)
            (fun _ _ _ _ _ => pe_cmpR op_in_sign (pv 2) pe_str rfl)) pa_nil)))) (pss_one (ps_ret pe_bl)) pss_nil)
      (pss_one (ps_ret (pe_cmpR op_eq (pe_lenSetC rfl (by rfl) T.len (by rfl) Cc.set (pv 0)) (pe_callB call_len_seq (by rfl) T.len PySem.boot_len (pa_cons (pv 0) pa_nil)) (nomark _)))))), ?_⟩
    obtain ⟨t, ty, kt, _⟩ := vd_isi hv
    have sl : ∀ zs : List Str, (strsD zs).length = zs.length := fun zs => by unfold strsD; rw [List.length_map]
    refine ⟨_, rfl, _, _, t, _, isTupB d, rfl, .ty _, ty, kt, _, rfl, ?_⟩
    cases e : isTupB d with
    | false => exact iteA rfl (k false _ (Same.refl _) ⟨(fun h => by cases h), fun ⟨zs, h, _⟩ => by rw [h] at e; cases e⟩)
    | true =>
    obtain ⟨q, xs, ds, rfl, rfl, hs, ha, nn⟩ := vd_tup hv e
    have xl := DpAll.len ha
    refine iteB rfl ⟨_, rfl, q, xs, rfl, .inr hs, _, _, rfl, rfl, _, rfl, ?_⟩
    by_cases l2 : 1 < xs.length
    case neg =>
      refine iteB (decide_eq_false (by omega)) ⟨_, rfl, iteA rfl (k false _ (Same.refl _) ⟨(fun h => by cases h), fun ⟨zs, h, h2, _⟩ => ?_⟩)⟩
      have := sl zs
      rw [PyData.tuple.inj h] at xl
      omega
    refine iteA (decide_eq_true (by omega)) ⟨_, _, rfl, rfl, _, rfl, ?_⟩
    by_cases l6 : xs.length < 7
    case neg =>
      refine iteA (by rw [decide_eq_false (by omega)]; rfl) (k false _ (Same.refl _) ⟨(fun h => by cases h), fun ⟨zs, h, _, h6, _⟩ => ?_⟩)
      have := sl zs
      rw [PyData.tuple.inj h] at xl
      omega
    refine iteB (by rw [decide_eq_true (by omega)]; rfl) ?_
    obtain ⟨ps, e1, e2, e3⟩ := dpAll_zip ha
    have pl : ps.length = ds.length := by rw [← e2, List.length_map]
    refine ⟨_, rfl, q, rfl, ⟨_, hs⟩, all_over (walk_tup (a := q) (xs := xs)) ps (·.1) (fun z => isStrB z.2) e1.symm (by omega) (fun H s => sqT_same s hs) ?_ ?_⟩
    · rintro i ⟨v0, d0⟩ H6 R hb s6 kk
      have hm := List.mem_of_getElem? hb
      have hd := e3 _ hm
      have n0 := nice_item nn d0 (by rw [← e2]; exact List.mem_map.mpr ⟨_, hm, rfl⟩)
      obtain ⟨t0, ty0, _, kt0⟩ := vd_isi (K := K) (H := H6) (.inl ⟨Dp.same s6 hd, n0⟩)
      exact ⟨rfl, _, rfl, _, _, t0, _, isStrB d0, rfl, .ty _, ty0, kt0, kk _ (Same.refl _)⟩
    intro H6 s6
    refine ⟨_, rfl, ?_⟩
    by_cases ea : (ps.all fun z => isStrB z.2) = true
    case neg =>
      rw [Bool.not_eq_true] at ea
      rw [ea]
      refine iteA rfl (k false _ s6 ⟨(fun h => by cases h), fun ⟨rs, h, _⟩ => ?_⟩)
      have h := PyData.tuple.inj h
      have : (ps.all fun z => isStrB z.2) = true := List.all_eq_true.mpr fun z hz => by
        have hz2 : z.2 ∈ ds := by rw [← e2]; exact List.mem_map.mpr ⟨z, hz, rfl⟩
        rw [h] at hz2
        obtain ⟨y, _, e⟩ := List.mem_map.mp hz2
        rw [← e]
        rfl
      rw [this] at ea
      cases ea
    rw [ea]
    obtain ⟨zs, rfl⟩ : ∃ rows, ds = strsD rows := all_strB fun d hd => by
      rw [← e2] at hd
      obtain ⟨z, hz, rfl⟩ := List.mem_map.mp hd
      exact List.all_eq_true.mp ea z hz
    obtain rfl := dp_strs_inv ha
    have zl := sl zs
    have z6 : zs.length ≤ 6 := by omega
    have zn : ∀ z ∈ zs, z.length ≤ 100000 := fun z hz => by
      have := (nice_item nn (.str z) (List.mem_map.mpr ⟨z, hz, rfl⟩)).wt
      simpa [PyData.weight, Str.length] using this
    have s6q := sqT_same s6 hs
    refine iteB rfl ⟨_, rfl, q, rfl, ⟨_, s6q⟩, all_over (walk_tup (a := q) (xs := zs.map V.str)) zs V.str (fun z => decide (0 < z.length) && decide (z.length < 9)) rfl (by omega) (fun H s => sqT_same s s6q) ?_ ?_⟩
    · intro i z H7 R hz s7 kk
      have := zn z (List.mem_of_getElem? hz)
      refine ⟨rfl, _, rfl, z, rfl, by rw [sizeLine_eq]; omega, _, _, rfl, rfl, _, rfl, ?_⟩
      by_cases a1 : 0 < z.length
      case neg =>
        refine iteB (decide_eq_false (by omega)) ?_
        have e : (decide (0 < z.length) && decide (z.length < 9)) = false := by rw [decide_eq_false a1]; rfl
        rw [e] at kk
        exact kk _ (Same.refl _)
      refine iteA (decide_eq_true (by omega)) ⟨_, _, rfl, rfl, ?_⟩
      have e : decide ((z.length : Int) < 9) = (decide (0 < z.length) && decide (z.length < 9)) := by
        rw [decide_eq_true a1, Bool.true_and]
        exact decide_eq_decide.mpr (by omega)
      show R (.bl (decide ((z.length : Int) < 9))) H7
      rw [e]
      exact kk _ (Same.refl _)
    intro H7 s7
    have s67 := s6.trans s7
    refine ⟨_, rfl, ?_⟩
    by_cases el : (zs.all fun z => decide (0 < z.length) && decide (z.length < 9)) = true
    case neg =>
      rw [Bool.not_eq_true] at el
      rw [el]
      refine iteA rfl (k false _ s67 ⟨(fun h => by cases h), fun ⟨rs, h, _, _, low, _⟩ => ?_⟩)
      obtain rfl := strsD_inj (PyData.tuple.inj h)
      have : (zs.all fun z => decide (0 < z.length) && decide (z.length < 9)) = true := List.all_eq_true.mpr fun z hz => by
        obtain ⟨a1, a2, _⟩ := low z hz
        rw [Bool.and_eq_true, decide_eq_true_eq, decide_eq_true_eq]
        omega
      rw [this] at el
      cases el
    rw [el]
    have each : ∀ z ∈ zs, 1 ≤ z.length ∧ z.length ≤ 8 := fun z hz => by
      have := List.all_eq_true.mp el z hz
      rw [Bool.and_eq_true, decide_eq_true_eq, decide_eq_true_eq] at this
      omega
    have jl := join_le (s := ("" : Str)) (n := 6) (c := 8) z6 fun z hz => (each z hz).2
    have j0 : ("" : Str).length = 0 := rfl
    rw [j0] at jl
    have jm : ∀ c, c ∈ (Txt.join "" zs).cps.toList ↔ ∃ z ∈ zs, c ∈ z.cps.toList := fun c => by
      rw [show (Txt.join "" zs).cps.toList = (zs.map TL.tl).flatten from join_nil zs, List.mem_flatten]
      constructor
      · rintro ⟨l, hl, hc⟩
        obtain ⟨z, hz, rfl⟩ := List.mem_map.mp hl
        exact ⟨z, hz, hc⟩
      · rintro ⟨z, hz, hc⟩
        exact ⟨_, List.mem_map.mpr ⟨z, hz, rfl⟩, hc⟩
    have jlen : (Txt.join "" zs).cps.toList.length ≤ 100 := by
      have := jl.2
      rw [Str.length] at this
      rw [Array.length_toList]
      omega
    refine iteB rfl ⟨⟨_, rfl⟩, _, rfl, _, q, zs, rfl, rfl, .inr (sqT_same s67 hs), by rw [j0]; omega, ?_⟩
    generalize Txt.join "" zs = J at jm jlen
    refine ⟨J, rfl, str_all (fun c => decide (c ∈ LETTERS.cps.toList)) (by omega) ?_ ?_⟩
    · intro i c H8 R hc s8 kk
      exact ⟨rfl, _, rfl, c, LETTERS, rfl, rfl, kk _ (Same.refl _)⟩
    · intro H8 s8
      have s78 := s67.trans s8
      have ss := sqT_same s78 hs
      refine ⟨_, rfl, ?_⟩
      by_cases ec : (J.cps.toList.all fun c => decide (c ∈ LETTERS.cps.toList)) = true
      case neg =>
        rw [Bool.not_eq_true] at ec
        rw [ec]
        refine iteA rfl (k false _ s78 ⟨(fun h => by cases h), fun ⟨rs, h, _, _, low, _⟩ => ?_⟩)
        obtain rfl := strsD_inj (PyData.tuple.inj h)
        have : (J.cps.toList.all fun c => decide (c ∈ LETTERS.cps.toList)) = true := List.all_eq_true.mpr fun c hc => by
          obtain ⟨z, hz, hc⟩ := (jm c).mp hc
          exact decide_eq_true ((low z hz).2.2 c hc)
        rw [this] at ec
        cases ec
      rw [ec]
      have low : ∀ z ∈ zs, LowOk z := fun z hz => ⟨(each z hz).1, (each z hz).2, fun c hc => by
        exact of_decide_eq_true (List.all_eq_true.mp ec _ ((jm c).mpr ⟨z, hz, hc⟩))⟩
      refine iteB rfl ⟨_, rfl, q, zs, rfl, .inr ss, by omega, _, rfl, q, _, rfl, .inr ss, rfl, k _ _ s78 ?_⟩
      rw [decide_eq_true_iff, List.length_map]
      have cn := cnt_nodup zs
      constructor
      · intro h
        have := V.int.inj h
        exact ⟨zs, rfl, by omega, z6, low, cn.mp (by omega)⟩
      · rintro ⟨ys, h, _, _, _, hy⟩
        obtain rfl := strsD_inj (PyData.tuple.inj h)
        rw [cn.mpr hy]
end
end K6
set_option Elab.async false
set_option linter.all false
set_option maxRecDepth 100000
set_option maxHeartbeats 4000000
/-! Part Lm: a lambda handed to a def that calls it where an error is caught; what is wished of the error is told at the slots. -/
namespace Lk
open PySem PySem.Spec PyProof.Rows L2 LamX
theorem Keep.extN {H H' : Hp} (x : ExtN H H') : Keep H H' := fun b o e n => x b o e fun ps z => by
  subst z
  exact n () (.tbl _)
/-- the code of a lambda, known by its name -/
abbrev lamQ (X : Cx) : Str := X.env.qual ++ "<lambda>"
section
variable {X : Cx} {pins : List (Addr × Obj)} {σ : L2.St} {H : Hp} {s : Shared}
/-- x(), in the def that got the lambda: as LamX.pe_act, but the wish is told at the slots -/
theorem act_at {Ng : List Str} {qg : Str} {sg : Scope} {g f cl : Addr} {cdg pm ctv : Value} {prs : Arguments} {body : Expr} {scope : Scope} {k i : Nat} {a : Str}
    {pn : List (Addr × Obj)} {xe : Value → Shared → Prop} {W : WX} {tb : XK → TE} {p1 p2 : Pos}
    (I : Inv X pins σ H s) (L : LamS X.env.scope scope)
    (there : s.heap.get? f = some (PySem.W.kla_obj "<lambda>" (lamQ X) prs body scope (cloFrom X.env.cells scope.names []) pm cl ctv))
    (untold : H f = none) (noframe : f ∉ frs X.stack)
    (nothing : bindArgs (PySem.W.kla_fn "<lambda>" (lamQ X) prs body scope (cloFrom X.env.cells scope.names []) pm (.ref cl) ctv) ⟨[], []⟩ = pure [])
    (tk : Takes ((cxOf C8.CX0 X.prog X.w X.K X.mg X.base Ng qg sg g cdg X.A X.stack s H C8.E0).tr pn xe) W)
    (room : Room (k + 1) (X.A.deeper (envOfC qg sg s.heap.objs.size g cdg)))
    (hb : ∀ (A : Around) (o : List Env) (s : Shared) (H : Hp) (E : XK), Room k (A.deeper (lamEnv X scope s.heap.objs.size f cl)) → PE (lamCx X A o s H E scope f cl) body (tb E))
    (hN : Ng[i]? = some a) (hv : Vis sg a) (hd : (a == ("__debug__" : Str)) = false := by decide) (hcd : (a == ("__classdict__" : Str)) = false := by decide) :
    PE ((cxOf C8.CX0 X.prog X.w X.K X.mg X.base Ng qg sg g cdg X.A X.stack s H C8.E0).tr pn xe) (.Call (.Name a p1) [] [] p2)
      (fun τ G Q => ∃ E : XK, (∀ cls d G', E cls d G' → W cls d τ G') ∧ τ[i]? = some (some (.ref f)) ∧ G cl = some (CodeO cl (lamQ X)) ∧ tb E σ G Q) := by
  constructor
  rintro pins' s0 τ G Q J ⟨E, hW, at0, hc, ht⟩
  refine wpAny_Call_Name_kw (thn ((pe_var (pos := p1) (i := i) hN hv hd hcd).run pins' s0 τ G (fun v G' => v = .ref f ∧ G' = G) J ⟨.ref f, at0, rfl, rfl⟩) ?_)
  rintro u s1 ⟨v, G1, J1, r1, rfl, rfl⟩
  cases (show u = Value.ref f from r1)
  have ob := J1.base.keep f _ there untold noframe (fun z => nomatch (show f ∈ ([] : List Addr) from z))
  refine PySem.W.callWith_F0 ⟨_, _, _, _, ob⟩ ?_
  have un : Un (frs X.stack) [] H G1 s.heap s1.heap := J1.base
  obtain ⟨⟨oc, vs, t, look, data, named⟩, _⟩ := J1.hok cl _ hc
  have ran : codeAny (model X.prog X.w) (X.A.deeper (envOfC qg sg s.heap.objs.size g cdg)) (.call (.ref f) ⟨[], []⟩)
      (CR (L2.CX X.prog X.w) (envOfC qg sg s.heap.objs.size g cdg :: X.stack) X.prog X.w G1 s1 Q E) s1 := by
    refine PySem.W.kla_callFunE room.depth ob rfl L.co L.gen rfl ⟨cl, oc, vs, t, rfl, look, data, named⟩ ?_
    rw [nothing]
    refine wpAny_pure (wpAny_newFunctionEnv (fun y hy => (L.own y hy).2) (fun y hy => absurd hy (by simp)) ?_ L.kind)
    intro h₁ names sb
    refine ⟨J1.nolimit.fresh _ sb, ?_⟩
    show codeAny _ _ (.expr body (lamEnv X scope s1.heap.objs.size f cl)) _ _
    have kept : ∀ b o, s1.heap.get? b = some o → h₁.get? b = some o := by
      intro b o e
      exact sb.extBut b o (Nat.ne_of_lt (Heap.lt_size e)) (Heap.get?_push_of_some _ e)
    have J2 : Inv (lamCx X (X.A.deeper (envOfC qg sg s.heap.objs.size g cdg)) (envOfC qg sg s.heap.objs.size g cdg :: X.stack) s1 G1 E scope f cl) [] σ G1
        { s1 with heap := h₁, toks := s1.toks + ([] : List (Str × Value)).length } := lam_start2 I L J1.env0 room.hd un names kept
    refine PySem.W.kla_codeExpr (wpAny_mono ((hb _ _ s1 G1 E (room.deeper _)).run [] _ _ G1 Q J2 ht) ?_ (fun _ _ y => y))
    rintro v s' ⟨w', G2, J3, rel, y⟩
    exact ⟨w', G2, J3.os, J3.bare, J3.base, J3.hok, rel, y⟩
  refine wpAny_call (codeAny_mono ran ?_)
  intro r s' y
  cases r with
  | error e => exact tk _ _ (XE.of_call J1 (fun cls d G' z => hW cls d G' z) y)
  | ok fl =>
    cases fl with
    | ret u => exact J1.after y
    | next => exact y.elim
    | brk => exact y.elim
    | cont => exact y.elim
end
/-- a def that calls what it got where an error is caught: a calls it; TT: what it makes of the lambda's reading -/
def HearsTo (X : Cx) (Ng : List Str) (x : Str) (sg : Scope) (g : Addr) (cdg : Value) (bg : List Stmt) (a q : Str) (TT : (XK → Hp → VK → Prop) → Hp → VK → Prop) : Prop :=
  ∀ (f cl : Addr) (s : Shared) (H : Hp) (Q : VK) (tl : XK → Hp → VK → Prop),
    (∀ (W : WX) (pn : List (Addr × Obj)) (xe : Value → Shared → Prop) (p1 p2 : Pos),
      Takes ((cxOf C8.CX0 X.prog X.w X.K X.mg X.base Ng x sg g cdg X.A X.stack s H C8.E0).tr pn xe) W →
      PE ((cxOf C8.CX0 X.prog X.w X.K X.mg X.base Ng x sg g cdg X.A X.stack s H C8.E0).tr pn xe) (.Call (.Name a p1) [] [] p2)
        (fun τ G Q => ∃ E : XK, (∀ cls d G', E cls d G' → W cls d τ G') ∧ τ[0]? = some (some (.ref f)) ∧ G cl = some (CodeO cl q) ∧ tl E G Q)) →
    H cl = some (CodeO cl q) → TT tl H Q →
    ∃ t, PSs (cxOf C8.CX0 X.prog X.w X.K X.mg X.base Ng x sg g cdg X.A X.stack s H C8.E0).nox bg t ∧ t { nx := fun _ H' => Q .non H', rt := Q } (L2.start Ng [.ref f]) H
section
variable {X : Cx}
/-- x(lambda: body), x hearing it -/
theorem pe_hear {T : List (Addr × Str)} {TT : (XK → Hp → VK → Prop) → Hp → VK → Prop} {x a : Str} {g c P : Addr} {k : Nat} {pg : Arguments} {bg : List Stmt} {sg : Scope}
    {dV kV doc pm cdv ct oc : Value} {an od : Option Addr} {osl : Array (Option Value)} {Ng : List Str} {prs : Arguments} {body : Expr} {scope : Scope} {t : XK → TE} {p lpos pos : Pos}
    (hg : Gl X x) (hm : X.mg x = some (.ref g)) (hk : PySem.W.keepIn X.K (.ref g) = true)
    (lk : X.K.lookup g = some ⟨oc, od, .func (PySem.W.fnOf x x pg bg sg dV kV doc pm an cdv ct), osl⟩) (code : PySem.W.codeIn X.K cdv x = true)
    (bd : L2.Binds X.K (PySem.W.fnOf x x pg bg sg dV kV doc pm an cdv ct) [a] []) (Sg : FnScope Ng [a] sg) (hN : Ng[0]? = some a) (hv : Vis sg a)
    (hears : HearsTo X Ng x sg g cdv bg a (lamQ X) TT)
    (TB : TabB X.base X.mg c P) (mine : X.env.code = .ref c) (told : (P, lamQ X) ∈ T) (sole : ∀ p ∈ T, p.1 = P → p.2 = lamQ X)
    (room : Room (k + 2) X.A) (L : LamS X.env.scope scope) (nodef : defaultsOf prs X.env = ([], []))
    (nothing : ∀ (q : Str) (cl : List (Str × Addr)) (pm cv ctv : Value), bindArgs (PySem.W.kla_fn "<lambda>" q prs body scope cl pm cv ctv) ⟨[], []⟩ = pure [])
    (hb : ∀ (A : Around) (o : List Env) (s : Shared) (H : Hp) (E : XK) (f cl : Addr), Room k (A.deeper (lamEnv X scope s.heap.objs.size f cl)) → PE (lamCx X A o s H E scope f cl) body (t E))
    (h1 : (x == ("__debug__" : Str)) = false := by decide) (h2 : (a == ("__debug__" : Str)) = false := by decide) (h3 : (a == ("__classdict__" : Str)) = false := by decide) :
    PE X (.Call (.Name x p) [.Lambda prs body scope lpos] [] pos) (tLam T TT t) := by
  constructor
  rintro pins s σ H Q I ⟨tabs, want⟩
  refine wpAny_Call_Name_kw (ld_glob I hg hm ?_ h1)
  refine PySem.W.callWith_K (h₀ := X.base) I.ok.mod.kin hk ?_ (by rfl) (by rfl)
  show wpAny _ _ (spliced ((false, eval (.Lambda prs body scope lpos) X.env) :: backTo pos (starEach [] X.env))) _ _ s
  refine Calls.spliced_cons (lam_make2 I TB mine told sole tabs nodef (L.has I.ok) ?_)
  intro f cl pm' ctv H1 s1 I1 grown tabs1 there untold noframe known
  refine Calls.spliced_nil ⟨I1.kIn, ?_⟩
  have ran : codeAny (model X.prog X.w) X.A (.call (.ref g) ⟨[.ref f], []⟩) (CR C8.CX0 X.stack X.prog X.w H1 s1 Q C8.E0) s1 := by
    refine run_ofS (N := Ng) (ps := [a]) (us := [.ref f]) (vs := [.ref f]) lk code Sg room I1.env0 (bd s1 [.ref f] I1.kIn rfl) (.cons rfl .nil) rfl (fun room' => ?_)
    obtain ⟨u, hu, hq⟩ := hears f cl s1 H1 Q (fun E G Q' => t E σ G Q')
      (fun W pn xe p1 p2 tk => act_at (i := 0) I1 L there untold noframe (nothing _ _ _ _ _) tk room' (fun A o s H E r => hb A o s H E f cl r) hN hv h2 h3) known (want H1 grown tabs1)
    exact ⟨u, hu.nox, hq⟩
  refine wpAny_call (codeAny_mono ran ?_)
  intro r s2 y
  cases r with
  | error e => exact (show False from y).elim
  | ok fl =>
    cases fl with
    | ret u => exact I1.after y
    | next => exact y.elim
    | brk => exact y.elim
    | cont => exact y.elim
end
end Lk
set_option Elab.async false
set_option linter.all false
set_option maxRecDepth 100000
set_option maxHeartbeats 4000000
set_option pp.maxSteps 1200
set_option pp.deepTerms false
namespace K6
open PySem PySem.Spec PyProof.Rows L2 Lk
abbrev sHeard : Stmt := top 23
/-- what the law makes of a call that it hears: (None, what it gives), or (the error, None) -/
def ttHeard (K : PySem.W.Frag) (CL : Addr) : (XK → Hp → VK → Prop) → Hp → VK → Prop := fun tl H Q => ∀ H0, Same H H0 → ∀ R : VK, (∀ v H', (∀ t, H' t = none → Q (.ref t) (upd H' t (.tup [.non, v]))) → R v H') →
  tl (fun cls d H' => PySem.W.exmOne K cls (.ref CL) = some true ∧ ∀ a t, H' a = none → t ≠ a → H' t = none → Q (.ref t) (upd (upd H' a (exq a cls d)) t (.tup [.ref a, .non]))) H0 R
theorem scHeard : FnScope ["call", "caught", "back", "error"] ["call"] (defScope sHeard) := ⟨rfl, rfl, rfl, by decide +kernel, rfl, by decide +kernel, by decide +kernel⟩
theorem heard_gives {X : Cx} {q : Str} {g CL : Addr} {cdg : Value} (hme : X.mg "LotError" = some (.ref CL)) :
    HearsTo X ["call", "caught", "back", "error"] "_law_heard" (defScope sHeard) g cdg (defBody sHeard) "call" q (ttHeard X.K CL) := by
  intro f c' s H Q tl act hc h
  have nd := scHeard.nd
  refine ⟨_, pss_cons (ps_asg (pe_tup (pa_cons pe_non (pa_cons pe_non pa_nil))) (pg_tup rfl (pgs_cons (pg_name (i := 1) nd rfl (.inl rfl)) (pgs_cons (pg_name (i := 2) nd rfl (.inl rfl)) pgs_nil))))
    (pss_cons (ps_try_trk (i := 3) (c := .ref CL) (tb := fun W D σ H => ∃ Ech : XK, (∀ cls d H', Ech cls d H' → W cls d σ H') ∧ σ[0]? = some (some (.ref f)) ∧ H c' = some (LamX.CodeO c' q) ∧ tl Ech H fun v H' => D.nx (σ.set 2 (some v)) H')
        rfl rfl rfl nd rfl rfl ⟨rfl, by decide, .inl hme⟩ (fun W pn xe tk _ => ?_) (fun a pn => pss_one (ps_set (i := 1) nd rfl (.inl rfl) (pv 3))))
    (pss_one (ps_ret (pe_tup (pa_cons (pv 1) (pa_cons (pv 2) pa_nil)))))), ?_⟩
  · refine ⟨fun pins s' σ H' D I h' => ?_⟩
    exact (pss_one (ps_set (i := 2) nd rfl (.inl rfl) (act W pn xe _ _ tk))).run pins s' σ H' D I h'
  · refine ⟨few_ok rfl, fun t nt => ⟨t, _, rfl, .inl (.inl upd_same), rfl, ?_⟩⟩
    refine ⟨_, _, rfl, _, _, rfl, rfl, ?_⟩
    have s1 : Same H (upd H t (.tup [.non, .non])) := same_new nt
    refine ⟨fun cls d H' => PySem.W.exmOne X.K cls (.ref CL) = some true ∧ ∀ a t, H' a = none → t ≠ a → H' t = none → Q (.ref t) (upd (upd H' a (exq a cls d)) t (.tup [.ref a, .non])), ?_, rfl, s1 _ _ hc, ?_⟩
    · rintro cls d H' ⟨e, k⟩
      refine ⟨e, fun a na => ?_⟩
      refine ⟨_, rfl, _, rfl, _, rfl, few_ok rfl, fun t2 n2 => ?_⟩
      have ne : t2 ≠ a := fun z => by rw [z, upd_same] at n2; cases n2
      refine k a t2 na ne ?_
      rw [upd_ne ne] at n2
      exact n2
    · exact h _ s1 _ fun v H' k => ⟨_, rfl, _, rfl, few_ok rfl, k⟩
end K6
set_option Elab.async false
set_option linter.all false
set_option maxRecDepth 100000
set_option maxHeartbeats 1500000
/-! Part Rp: repr of data that is read deep (lists, tuples of any kind). -/
namespace Lk
open PySem PySem.Spec PyProof.Rows L2
theorem call_reprP {X : Cx} (noG : NoG X.A) (hu : X.A.units + 64 < cLine) : CallR X (.builtin "repr") (fun xs H Q => ∃ v d, xs = [v] ∧ Dp X.K H v d ∧ Nice 1000000 50 d ∧ Q (.str d.shown) H) := by
  intro pins s σ H xs us Q I r h
  obtain ⟨v, d, rfl, hd, n, q⟩ := h
  obtain ⟨u, rfl, ru⟩ := r.one
  have fin : ∀ t (s' : Shared), Inv X pins σ H s' → EP X pins σ Q (.str d.shown t) s' := fun t s' J => ⟨.str d.shown, H, J, ⟨t, rfl⟩, q⟩
  have hl := n.fits (by decide) (by decide)
  have refs : ∀ a, u = .ref a → wpAny (model X.prog X.w) X.A (call (.builtin "repr") [u]) (EP X pins σ Q) X.xe s := by
    rintro a rfl
    obtain ⟨as, q1⟩ := Dp.reads I d v (.ref a) hd ru
    have := n.dep
    exact repr_of_reads' q1 n.sw (PyData.noDict_hsm (PyData.hasDict_of_canLay d n.lay)) noG (by omega) (fun _ _ e => e) (fun h' t tk k => fin _ _ (I.kept (t' := tk) k)) hl
  cases hd with
  | non => cases (show u = Value.none from ru); exact PySem.P.repr_of_none (fin _ _ (I.tok _))
  | bl b => cases (show u = Value.bool b from ru); cases b <;> exact PySem.P.repr_of_bool (fin _ _ (I.tok _))
  | int i => obtain ⟨t, rfl⟩ := ru; exact PySem.P.repr_of_int (by simpa [PyData.showable] using n.sw) (fin _ _ (I.tok _))
  | str x => obtain ⟨t, rfl⟩ := ru; exact PySem.P.repr_of_str (fin _ _ (I.tok _)) hl
  | lst _ _ => exact refs _ ru
  | tup _ _ => exact refs _ ru
end Lk
set_option Elab.async false
set_option linter.all false
set_option maxRecDepth 100000
set_option maxHeartbeats 1500000
set_option pp.maxSteps 1200
set_option pp.deepTerms false
namespace K6
open PySem PySem.Spec PyProof.Rows L2 Lk
abbrev sLCircR : Stmt := top 33
/-- repr of any value -/
def rReprV (K : PySem.W.Frag) : List V → Hp → VK → Prop := fun xs H Q => ∃ v d, xs = [v] ∧ VD K H v d ∧ Q (.str d.shown) H
theorem call_reprV {X : Cx} (noG : NoG X.A) (hu : X.A.units + 64 < cLine) : CallR X (.builtin "repr") (rReprV X.K) := by
  intro pins s σ H xs us Q I r h
  obtain ⟨v, d, rfl, hv, q⟩ := h
  rcases hv with ⟨hd, n⟩ | ⟨a, ks, ps, rfl, ha, rfl, hk, few⟩
  · exact call_reprP noG hu pins s σ H [v] us Q I r ⟨v, d, rfl, hd, n.mono (by decide) (by decide), q⟩
  · refine call_reprD noG hu pins s σ H [.ref a] us Q I r ⟨.ref a, .dict ps, rfl, .dic ha hk, ?_, ?_, ?_, q⟩
    · rcases few with rfl | rfl <;> decide +kernel
    · rcases few with rfl | rfl <;> decide +kernel
    · rcases few with rfl | rfl <;> decide +kernel
/-- as FnG.of, the code told -/
theorem fnG_ofC {P : Program} {w : World} {K : PySem.W.Frag} {mg : Str → Option Value} {base : Heap} {lev : Nat} {fA : Addr} {pars N : List Str} {sp : Sp} {nm ql : Str} {st : Stmt} {fD : FuncData}
    (F : Fun K nm ql st fA fD) (S : FnScope N pars (defScope st)) (many : ∀ vs H Q, sp vs H Q E0 → vs.length = pars.length)
    (body : ∀ (A : Around) (around : List Env) (s : Shared) (H : Hp) (vs : List V) (Q : VK), Room lev (A.deeper (envOfC ql (defScope st) s.heap.objs.size fA fD.code)) → NoG A → sp vs H Q E0 →
      ∃ t, PSs (cxOf CX0 P w K mg base N ql (defScope st) fA fD.code A around s H E0).nox (defBody st) t ∧ t { nx := fun _ H' => Q .non H', rt := Q } (start N vs) H) :
    FnG P w K mg base (lev + 1) fA fD pars sp := by
  obtain ⟨oc, od, kV, doc, pm, an, cdv, ct, osl, rfl, look, code⟩ := F.ex
  constructor
  · exact many
  intro A around s H args us vs Q room noG e0 binds rel want
  have same := many _ _ _ want
  have inK : K.In s.heap := e0.mod.kin.keeps fun b o e => (e0.bs b o e).1
  have free := e0.mod.nolimit.keeps fun b o e => (e0.bs b o e).1
  have kinds : ∀ y ∈ pars.zip us, (defScope st).names.lookup y.1 = some .local ∨
      ((defScope st).names.lookup y.1 = some .cell ∧ ((cellsFrom (s.heap.objs.size + 1) (defScope st).names []).lookup y.1).isSome = true) := by
    rintro ⟨n, v⟩ hy
    rcases S.par n (List.of_mem_zip hy).1 with q | q
    · exact Or.inl q
    · exact Or.inr ⟨q, PySem.W.cellsFrom_some _ _ _ (Or.inl q)⟩
  refine codeAny_call_function room.depth (inK _ _ look) rfl S.co S.gen rfl (PySem.W.codeRec_of inK code) (binds _ _ _ _ ?_)
  refine wpAny_newFunctionEnv_cells S.kind kinds ?_
  intro env he s1 x
  subst he
  refine ⟨free.keeps x.toInCall.keep, codeAny_func ?_⟩
  obtain ⟨t, ht, hq⟩ := body A around s H vs Q (room.deeper _) noG want
  have I := inv_start (CX := CX0) (E := E0) S room.hd e0 same rel x
  have run := ht.nox.run [] s1 (start N vs) H _ I hq
  refine wpAny_mono run ?_ fun e s' hs => hs
  intro fl s' hs
  cases fl with
  | ret u =>
    obtain ⟨v, σ', H', J, rv, q⟩ := hs
    exact ⟨v, H', J.os, J.bare, J.base, J.hok, rv, q⟩
  | next =>
    obtain ⟨σ', H', J, q⟩ := hs
    exact ⟨V.non, H', J.os, J.bare, J.base, J.hok, rfl, q⟩
  | brk => obtain ⟨_, _, _, q⟩ := hs; exact False.elim q
  | cont => obtain ⟨_, _, _, q⟩ := hs; exact False.elim q
/-- a lambda of the def with this name, its table among T -/
structure LamT (T : List (Addr × Str)) (Tb : Addr) (x : Str) : Prop where
  mem : (Tb, (x ++ (".<locals>." : Str)) ++ ("<lambda>" : Str)) ∈ T
  sole : ∀ p ∈ T, p.1 = Tb → p.2 = (x ++ (".<locals>." : Str)) ++ ("<lambda>" : Str)
theorem LamT.at {T : List (Addr × Str)} {Tb : Addr} {x : Str} (L : LamT T Tb x) {X : Cx} (h : X.env.qual = x ++ (".<locals>." : Str)) : (Tb, lamQ X) ∈ T := by
  have e : (x ++ (".<locals>." : Str)) ++ ("<lambda>" : Str) = lamQ X := (congrArg (fun q : Str => q ++ ("<lambda>" : Str)) h).symm
  rw [← e]
  exact L.mem
theorem LamT.only {T : List (Addr × Str)} {Tb : Addr} {x : Str} (L : LamT T Tb x) {X : Cx} (h : X.env.qual = x ++ (".<locals>." : Str)) : ∀ p ∈ T, p.1 = Tb → p.2 = lamQ X := by
  have e : (x ++ (".<locals>." : Str)) ++ ("<lambda>" : Str) = lamQ X := (congrArg (fun q : Str => q ++ ("<lambda>" : Str)) h).symm
  rw [← e]
  exact L.sole
/-! ### what stays when tables grow -/
theorem sqL_extN {K : PySem.W.Frag} {H H' : Hp} {a : Addr} {xs : List V} (s : LamX.ExtN H H') (h : SqL K H a xs) : SqL K H' a xs := h.imp (fun h => h.imp (fun e => s _ _ e fun _ z => by cases z) fun ⟨o, e⟩ => ⟨o, s _ _ e fun _ z => by cases z⟩) id
theorem sqT_extN {K : PySem.W.Frag} {H H' : Hp} {a : Addr} {xs : List V} (s : LamX.ExtN H H') (h : SqT K H a xs) : SqT K H' a xs := Lk.SqT.keep h (Keep.extN s)
mutual
theorem Dp.extN {K : PySem.W.Frag} {H H' : Hp} (s : LamX.ExtN H H') : ∀ {d : PyData} {v : V}, Dp K H v d → Dp K H' v d
  | .none, _, h => by cases h; exact .non
  | .bool b, _, h => by cases h; exact .bl b
  | .int i, _, h => by cases h; exact .int i
  | .str x, _, h => by cases h; exact .str x
  | .list ds, _, h => by
    cases h with
    | lst hs ha => exact .lst (sqL_extN s hs) (DpAll.extN s ha)
  | .tuple ds, _, h => by
    cases h with
    | tup hs ha => exact .tup (sqT_extN s hs) (DpAll.extN s ha)
  | .dict _, _, h => by cases h
theorem DpAll.extN {K : PySem.W.Frag} {H H' : Hp} (s : LamX.ExtN H H') : ∀ {ds : List PyData} {vs : List V}, DpAll K H vs ds → DpAll K H' vs ds
  | [], _, h => by cases h; exact .nil
  | d :: ds, _, h => by
    cases h with
    | cons h1 h2 => exact .cons (Dp.extN s h1) (DpAll.extN s h2)
end
mutual
theorem DW.extN {H H' : Hp} (k : LamX.ExtN H H') : ∀ {v : V} {d : PyData}, DW H v d → DW H' v d
  | _, _, .non => .non
  | _, _, .bl b => .bl b
  | _, _, .int i => .int i
  | _, _, .str x => .str x
  | _, _, .lst h n r => .lst (k _ _ h fun _ z => by cases z) n (DWs.extN k r)
  | _, _, .tup h r => .tup (k _ _ h fun _ z => by cases z) (DWs.extN k r)
  | _, _, .dic h r => .dic (k _ _ h fun _ z => by cases z) (DWk.extN k r)
theorem DWs.extN {H H' : Hp} (k : LamX.ExtN H H') : ∀ {vs : List V} {ds : List PyData}, DWs H vs ds → DWs H' vs ds
  | _, _, .nil => .nil
  | _, _, .cons h r => .cons (DW.extN k h) (DWs.extN k r)
theorem DWk.extN {H H' : Hp} (k : LamX.ExtN H H') : ∀ {vs : List (Key × V)} {ds : List (PyData × PyData)}, DWk H vs ds → DWk H' vs ds
  | _, _, .nil => .nil
  | _, _, .cons h r => .cons (DW.extN k h) (DWk.extN k r)
end
theorem VD.extN {K : PySem.W.Frag} {H H' : Hp} {v : V} {d : PyData} (h : VD K H v d) (s : LamX.ExtN H H') : VD K H' v d := by
  rcases h with ⟨h, n⟩ | ⟨a, ks, ps, e, h, e2, hk, few⟩
  · exact .inl ⟨Dp.extN s h, n⟩
  · exact .inr ⟨a, ks, ps, e, s _ _ h (fun _ z => by cases z), e2, DWk.extN s hk, few⟩
section
variable {P : Program} {w : World} {K : PySem.W.Frag} {mg : Str → Option Value} {base : Heap} {f : Addr} {fd : FuncData}
/-! ### _law_is_circle_right -/
def spLCircR (K : PySem.W.Frag) (T : List (Addr × Str)) : Sp := fun vs H Q _ => ∃ (v : V) (d : PyData), vs = [v] ∧ VD K H v d ∧ LamX.Tabs T H ∧ ∀ H', LamX.ExtN H H' → LamX.Tabs T H' → Q (.bl true) H'
theorem scLCircR : FnScope ["value", "caught", "ring"] ["value"] (defScope sLCircR) := ⟨rfl, rfl, rfl, by decide +kernel, rfl, by decide +kernel, by decide +kernel⟩
theorem ok_lCircR {T : List (Addr × Str)} {C CN CL c Tb fC fH fA fL fI : Addr} {dC dH dA dL : FuncData} (F : Fun K "_law_is_circle_right" "_law_is_circle_right" sLCircR f fd) (Tl : Bl mg) (Cc : Cn mg)
    (hc : fd.code = .ref c) (TB : LamX.TabB base mg c Tb) (LT : LamT T Tb "_law_is_circle_right") (CC : CircC K C fC) (ec : ErC K CN fI) (ek : ErK K fI) (mU : mg "BadNames" = some (.ref CN)) (mL : mg "LotError" = some (.ref CL)) (mC : mg "Circle" = some (.ref C)) (em : PySem.W.exmOne K (.ref CN) (.ref CL) = some true)
    (FH : Fun K "_law_heard" "_law_heard" sHeard fH dH) (aH : At K mg "_law_heard" fH dH ["call"])
    (GI : FnOk P w K mg base (L2.CX P w) 3 fC dC ["self", "names"] (spCircX K C CN)) (bI : Binds K dC ["self", "names"] [])
    (GA : FnOk P w K mg base CX0 1 fA dA ["value"] (spLAreNames K)) (aA : At K mg "_law_are_names" fA dA ["value"])
    (GL : FnOk P w K mg base CX0 1 fL dL ["self"] (spCircLen K C)) (ML : MethC K C "__len__" fL) (bL : Binds K dL ["self"] []) :
    FnG P w K mg base 8 f fd ["value"] (spLCircR K T) := by
  refine fnG_ofC F scLCircR (fun vs H Q h => ?_) (fun A outer s H vs Q hr hG h => ?_)
  · obtain ⟨v, d, rfl, _⟩ := h
    rfl
  · obtain ⟨v, d, rfl, hv, tbs, k⟩ := h
    have nd := scLCircR.nd
    have hu64 := room64 hr
    have hr1 : Room 1 _ := hr.mono (by decide)
    have hr2 : Room 2 _ := hr.mono (by decide)
    have hr6 : Room 6 _ := hr.mono (by decide)
    obtain ⟨oc, od, kV, doc, pm, an, cdv, ct, osl, rfl, lookH, codeH⟩ := FH.ex
    refine ⟨_, pss_cons (ps_asg (pe_hear (TT := ttHeard K CL) (T := T) (t := fun E => tMake C (spCircX K C CN) [] E (tCons (tVar 0) tNil)) (k := 4) (by rfl) aH.m aH.kp lookH codeH aH.b scHeard rfl (.inl rfl) (heard_gives mL) TB hc (LT.at (by rfl))
              (LT.only (by rfl)) hr6 (LamX.lamS_by (sc := defScope sLCircR) (by decide +kernel)) rfl (fun _ _ _ _ _ => rfl)
              (fun A o s H E f cl hr' => pe_make CC.mkr GI hr' (by rfl) mC bI .nil (passes_call (W := fun cls d _ H => E cls d H) (takes_of rfl rfl rfl rfl) (fun _ _ _ _ h => h)) (pa_cons (pv 0) pa_nil)))
            (pg_tup rfl (pgs_cons (pg_name (i := 1) nd rfl (.inl rfl)) (pgs_cons (pg_name (i := 2) nd rfl (.inl rfl)) pgs_nil))))
      (pss_cons (ps_if (pt_not (pt_val (pe_call GA hr1 (by rfl) aA.m aA.kp aA.b .nil pass0 (pa_cons (pv 0) pa_nil))))
          (pss_one (ps_ret (pe_and (pe_callB call_cauIs (by rfl) Tl.isin boot_isinstance (pa_cons (pv 1) (pa_cons (pe_glob (v := .ref CN) (by rfl) mU rfl) pa_nil))) (pe_one (pe_cmpR op_eq (pe_callB (call_reprV hG hu64) (by rfl) Tl.repr boot_repr (pa_cons (pe_cauV (pv 1)) pa_nil)) (pe_callB (call_reprV hG hu64) (by rfl) Tl.repr boot_repr (pa_cons (pv 0) pa_nil)) (nomark _)))))) pss_nil)
      (pss_one (ps_ret (pe_and (pe_cmpR op_isN (pv 1) pe_non (nomark _)) (pe_and (pe_cmpR (op_eqD hu64) (pe_fld (pv 2) rfl) (pv 0) (nomark _)) (pe_one (pe_cmpR op_eq (pe_callB (call_lenI GL ML.at_ ML.fn bL hr2) (by rfl) Tl.len PySem.boot_len (pa_cons (pv 2) pa_nil)) (pe_callB call_len_seq (by rfl) Tl.len PySem.boot_len (pa_cons (pv 0) pa_nil)) (nomark _)))))))), ?_⟩
    refine ⟨tbs, fun H1 gr1 tb1 H2 s2 R hR => ?_⟩
    have x2 : LamX.ExtN H H2 := gr1.trans (.of s2)
    have tb2 : LamX.Tabs T H2 := tb1.ext fun b o q => s2 _ _ q
    refine ⟨_, rfl, fun x dx nx ndx nxx => ?_⟩
    have s3 : Same H2 (upd (upd H2 dx (.own x)) x (.ins C dx [])) := fun b o e => by
      rw [upd_ne (ne_of_none e nx), upd_ne (ne_of_none e ndx)]
      exact e
    have e3 : upd (upd H2 dx (.own x)) x (.ins C dx []) x = some (.ins C dx []) := upd_same
    generalize upd (upd H2 dx (.own x)) x (.ins C dx []) = H3 at s3 e3
    have x3 : LamX.ExtN H H3 := x2.trans (.of s3)
    have tb3 : LamX.Tabs T H3 := tb2.ext fun b o q => s3 _ _ q
    have hv2 := hv.extN x2
    have hv3 := hv.extN x3
    clear gr1 tb1 s2
    refine ⟨x, dx, v, d, rfl, e3, hv3, fun zs ed z2 z6 low ndz H4 ne ex => ⟨rfl, hR _ _ fun t nt => ?_⟩, fun nR y H4 s4 ny ey => ⟨em, fun a t na nta nt => ?_⟩⟩
    · -- a circle
      refine ⟨t, _, rfl, .inl (.inl upd_same), rfl, _, _, rfl, _, _, rfl, rfl, ?_⟩
      have nH2 : ∀ b o, H2 b = some o → b ≠ x := fun b o e => ne_of_none e nx
      have s24 : Same H2 H4 := fun b o e => ne b o (nH2 b o e) (s3 b o e)
      have s5 : Same H4 (upd H4 t (.tup [.non, .ref x])) := same_new nt
      have s25 := s24.trans s5
      have ex5 := s5 _ _ ex
      generalize upd H4 t (.tup [.non, .ref x]) = H5 at s5 s25 ex5 ⊢
      have hv5 := hv2.same s25
      refine ⟨_, rfl, v, d, rfl, hv5, fun b H6 s6 hb => ⟨_, rfl, ?_⟩⟩
      have hb : b = true := hb.mpr ⟨zs, ed, z2, z6, low, ndz⟩
      subst hb
      have hv6 := hv5.same s6
      have ex6 := s6 _ _ ex5
      subst ed
      obtain ⟨q, rfl, hq⟩ := lotD_val (ns := zs) hv6
      have sh : SeqAt.shaped (.tuple (strsD zs)) = true := by
        obtain ⟨_, _, ds, _, e, _, _, nn⟩ := vd_tup hv6 rfl
        rw [e]
        exact nn.shaped (by decide)
      refine iteB rfl ⟨_, rfl, rfl, _, rfl, iteT ?_⟩
      refine ⟨_, rfl, x, C, dx, _, .ref q, rfl, ex6, CC.cls, CC.nm, rfl, _, rfl, .tuple (strsD zs), .tuple (strsD zs), .tup hq (dp_strs zs), .tup hq (dp_strs zs), sh, sh, ?_⟩
      rw [SeqAt.eqv_refl _ (SeqAt.canLay_of_shaped sh)]
      refine ⟨_, rfl, iteT ?_⟩
      refine ⟨_, rfl, x, dx, _, rfl, ex6, x, zs, rfl, ⟨dx, q, ex6, hq⟩, _, rfl, by omega, by omega, _, rfl, q, _, rfl, .inr hq, rfl, ?_⟩
      rw [List.length_map, decide_eq_true rfl]
      exact k _ (x2.trans (.of (s25.trans s6))) (tb2.ext fun b o q => (s25.trans s6) _ _ q)
    · -- an error
      refine ⟨t, _, rfl, .inl (.inl upd_same), rfl, _, _, rfl, _, _, rfl, rfl, ?_⟩
      have s5 : Same H4 (upd (upd H4 a (exq a (.ref CN) (some y))) t (.tup [.ref a, .non])) := fun b o q => by
        rw [upd_ne (ne_of_none q nt), upd_ne (ne_of_none q na)]
        exact q
      have c5 : CauAt (upd (upd H4 a (exq a (.ref CN) (some y))) t (.tup [.ref a, .non])) CN a y v := ⟨by rw [upd_ne nta.symm, upd_same], s5 _ _ ey⟩
      have s35 := s4.trans s5
      generalize upd (upd H4 a (exq a (.ref CN) (some y))) t (.tup [.ref a, .non]) = H5 at s5 s35 c5 ⊢
      have hv5 := hv3.same s35
      refine ⟨_, rfl, v, d, rfl, hv5, fun b H6 s6 hb => ⟨_, rfl, ?_⟩⟩
      have hb : b = false := by
        cases b with
        | false => rfl
        | true => exact absurd (hb.mp rfl) nR
      subst hb
      have hv6 := hv5.same s6
      have c6 := c5.same s6
      have kit : PySem.W.kitOne K (.ref CN) (.ref CN) = some true := by unfold PySem.W.kitOne; rw [if_pos (by simp)]
      refine iteA rfl ⟨_, rfl, a, CN, y, fI, v, .ref CN, .ref CN, true, rfl, ec, ek, c6, .own CN, kit, _, rfl, iteT ?_⟩
      refine ⟨_, rfl, a, CN, y, _, fI, rfl, ec, c6, v, d, rfl, hv6, _, rfl, v, d, rfl, hv6, rfl, ?_⟩
      rw [decide_eq_true rfl]
      exact k _ (x3.trans (.of (s35.trans s6))) (tb3.ext fun b o q => (s35.trans s6) _ _ q)
end
end K6
set_option Elab.async false
set_option linter.all false
set_option maxRecDepth 100000
set_option maxHeartbeats 1500000
set_option pp.maxSteps 1200
set_option pp.deepTerms false
namespace K6
open PySem PySem.Spec PyProof.Rows L2 Lk
section
variable {P : Program} {w : World} {K : PySem.W.Frag} {mg : Str → Option Value} {base : Heap} {f : Addr} {fd : FuncData}
theorem ix_or {X : Cx} {r1 r2 : R2} (h1 : IxR X r1) (h2 : IxR X r2) : IxR X (fun x y H Q => r1 x y H Q ∨ r2 x y H Q) := by
  intro value slice pins s σ H x y v u Q I rx ry h e
  rcases h with h | h
  · exact h1 value slice pins s σ H x y v u Q I rx ry h e
  · exact h2 value slice pins s σ H x y v u Q I rx ry h e
def spOfA (K : PySem.W.Frag) : Sp := fun vs H Q _ => ∃ (a l : Addr) (N : Nat) (xs : List V), vs = [.ref a, .ref l] ∧ PotAt a N H ∧ N ≤ 1000000 ∧ l ≠ a ∧ (H l = some (.lst xs) ∨ H l = some (.tup xs)) ∧ 0 < xs.length ∧ xs.length ≤ 1000 ∧
  ∀ (i : Nat) (x : V) (H' : Hp), xs[i]? = some x → ExtP a H H' → PotAt a (N + 1) H' → Q x H'
theorem ok_ofA {f1 : Addr} {fd1 : FuncData} (F : Fun K "_law_of" "_law_of" sOf f fd) (T : Bl mg) (F1 : Fun K "_law_take" "_law_take" sTake f1 fd1) (b1 : Binds K fd1 ["pot", "upto"] []) (m1 : mg "_law_take" = some (.ref f1)) :
    FnOk P w K mg base CX0 2 f fd ["pot", "some"] (spOfA K) := by
  have G1 : FnOk P w K mg base CX0 1 f1 fd1 ["pot", "upto"] spTake := ok_take F1 T
  refine F.ok scOf (fun vs H Q E h => ?_) (fun cdv A outer s H vs Q E hr h => ?_)
  · obtain ⟨a, l, N, xs, rfl, _⟩ := h
    rfl
  · obtain ⟨a, l, N, xs, rfl, hp, hN, nla, hl, h0, h1, k⟩ := h
    refine ⟨_, pss_one (ps_ret (pe_ix (ix_or ix_list ix_tup) (pv 1) (pe_call G1 hr rfl m1 F1.kp b1 .nil pass0 (pa_cons (pv 0) (pa_cons (pe_callB call_len_seq (by rfl) T.len PySem.boot_len (pa_cons (pv 1) pa_nil)) pa_nil))) (fun _ _ => rfl))), ?_⟩
    refine ⟨_, rfl, _, rfl, _, rfl, l, xs, rfl, hl.elim (fun h => .inl (SqL.of h)) (fun h => .inr (SqT.of h)), a, _, N, rfl, hp, hN, by omega, by omega, fun i H' i0 i1 ex hp' => ?_⟩
    obtain ⟨x, hx⟩ : ∃ x, xs[i.toNat]? = some x := ⟨_, List.getElem?_eq_getElem (by omega)⟩
    have e : atI xs i = some x := by
      have e : i = ((i.toNat : Nat) : Int) := by omega
      rw [e]
      exact atI_nat hx
    rcases hl with hl | hl
    · exact .inl ⟨l, xs, i, x, rfl, rfl, SqL.of (ex l _ nla hl), e, k i.toNat x H' hx ex hp'⟩
    · exact .inr ⟨l, xs, i, x, rfl, rfl, SqT.of (ex l _ nla hl), e, k i.toNat x H' hx ex hp'⟩
end
end K6
set_option Elab.async false
set_option linter.all false
set_option maxRecDepth 100000
set_option maxHeartbeats 1500000
/-! a tuple the other way round: t[::-1] -/
namespace Lk
open PySem PySem.Spec PyProof.Rows L2

section
variable {prog : Program} {w : World} {A : Around} {E : Value → Shared → Prop} {s : Shared}
theorem adjust_rev (n : Nat) : Builtin.Slice.sliceAdjust none none (-1) (n : Int) = ((n : Int) - 1, -1) := by
  unfold Builtin.Slice.sliceAdjust
  simp
theorem places_rev (n : Nat) : Builtin.Slice.slicePlaces ((n : Int) - 1) (-1) (-1) = n := by
  unfold Builtin.Slice.slicePlaces
  have h1 : ¬ ((-1 : Int) > 0) := by decide
  have h2 : -(-1 : Int) = 1 := by decide
  rw [if_neg h1, h2, Int.ediv_one]
  by_cases h : (n : Int) - 1 > -1
  · rw [if_pos h]; omega
  · rw [if_neg h]; omega
theorem pick_rev (xs : List Value) : ((List.range xs.length).filterMap fun (m : Nat) => xs.toArray[(((xs.length : Int) - 1) + (m : Int) * (-1)).toNat]?) = xs.reverse := by
  have h : ∀ m ∈ List.range xs.length, xs.toArray[(((xs.length : Int) - 1) + (m : Int) * (-1)).toNat]? = xs.reverse[m]? := by
    intro m hm
    have hm := List.mem_range.mp hm
    rw [List.getElem?_reverse hm]
    have : (((xs.length : Int) - 1) + (m : Int) * (-1)).toNat = xs.length - 1 - m := by omega
    rw [this]
    simp
  have key : ∀ (ys : List Value) (f : Nat → Option Value), (∀ m, m < ys.length → f m = ys[m]?) → (List.range ys.length).filterMap f = ys := by
    intro ys
    induction ys with
    | nil => intro f _; rfl
    | cons y ys ih =>
      intro f hf
      rw [List.length_cons, List.range_succ_eq_map, List.filterMap_cons, hf 0 (by simp)]
      show y :: _ = _
      rw [List.filterMap_map]
      rw [ih (f ∘ Nat.succ) fun m hm => by
        show f (m + 1) = _
        rw [hf (m + 1) (by rw [List.length_cons]; omega)]
        rfl]
  have := key xs.reverse (fun (m : Nat) => xs.toArray[(((xs.length : Int) - 1) + (m : Int) * (-1)).toNat]?) fun m hm => h m (List.mem_range.mpr (by rw [List.length_reverse] at hm; exact hm))
  rw [List.length_reverse] at this
  exact this
theorem sliceApplied_rev {sl : Addr} {t : Tok} {n : Nat} {Q : Int × Int × Nat → Shared → Prop} (hs : s.heap.IsSliceOf sl .none .none (.int (-1) t))
    (h : Q ((n : Int) - 1, -1, n) s) : wpAny (model prog w) A (Builtin.Slice.sliceApplied (.ref sl) (pure (n : Int))) Q E s := by
  obtain ⟨os, hos, hcs, hds⟩ := id hs
  unfold Builtin.Slice.sliceApplied Builtin.Slice.sliceFields
  refine wpAny_bind (wpAny_bind (wpAny_field hos hds (x := .none) rfl (wpAny_bind (wpAny_field hos hds (x := .none) rfl (wpAny_bind (wpAny_field hos hds (x := .int (-1) t) rfl (wpAny_pure ?_)))))))
  refine wpAny_bind (HT.slicePart_ (.int (-1) t) ?_)
  show wpAny _ _ (if ((-1 : Int) == 0) = true then _ else _) _ _ s
  rw [if_neg (by decide)]
  refine wpAny_bind (HT.slicePart_ .none (wpAny_bind (HT.slicePart_ .none (wpAny_bind (wpAny_pure ?_)))))
  show wpAny _ _ (match Builtin.Slice.sliceAdjust none none (-1) (n : Int) with | (lo, hi) => pure (lo, (-1 : Int), Builtin.Slice.slicePlaces lo hi (-1))) _ _ s
  rw [adjust_rev n]
  show wpAny _ _ (pure ((n : Int) - 1, (-1 : Int), Builtin.Slice.slicePlaces ((n : Int) - 1) (-1) (-1))) _ _ s
  rw [places_rev]
  exact wpAny_pure h
theorem getItem_tuple_rev {t sl : Addr} {items : List Value} {tk : Tok} {Q : Value → Shared → Prop} (ht : IsTup s.heap t items.toArray) (hs : s.heap.IsSliceOf sl .none .none (.int (-1) tk))
    (h : Q (.ref s.heap.objs.size) { s with heap := s.heap.push { cls := .type "tuple", data := .seq items.reverse.toArray } })
    (hsz : items.length ≤ sizeLine) : wpAny (model prog w) A (getItem (.ref t) (.ref sl)) Q E s := by
  have htake : sizeOk (.seq items.reverse.toArray) := by
    show items.reverse.toArray.size ≤ sizeLine
    rw [List.size_toArray, List.length_reverse]
    exact hsz
  obtain ⟨os, hos, hcs, hds⟩ := id hs
  have hTs : s.TypeIs (.ref sl) "slice" := ⟨os, hos, hcs⟩
  unfold getItem
  try with_reducible refine wpAny_holding ?_
  first | refine wpAny_bind (wpAny_pure ?_) | skip
  refine wpAny_bind (wpAny_sequenceKey ht.typeIs (by decide) ?_)
  refine wpAny_bind (wpAny_callSpecial?_slot (name := Str.ofString "__getitem__") ht.typeIs PyProof.Rows.slot_tuple_getitem
    (wpAny_call_entry PyProof.Rows.slot_tuple_getitem ht.typeIs PyProof.Rows.entry_tuple_getitem ?_ (PyProof.Rows.args_tuple_getitem _ _)))
  show wpAny _ _ (Builtin.Tuple.tupleItemsOf (.ref t) >>= _) _ _ s
  refine wpAny_bind (PyProof.Rows.tupleItemsOf_ ht ?_)
  refine wpAny_bind (wpAny_typeOf hTs ?_)
  rw [if_pos (by decide)]
  rw [show ((items.toArray.size : Nat) : Int) = ((items.length : Nat) : Int) from by rw [List.size_toArray]]
  refine wpAny_bind (sliceApplied_rev hs ?_)
  have hno : ¬ ((((items.length : Int) - 1) == 0 && (-1 : Int) == 1 && items.length == items.toArray.size) = true) := by
    intro q
    rw [Bool.and_eq_true, Bool.and_eq_true] at q
    exact absurd q.1.2 (by decide)
  show wpAny _ _ (if (((items.length : Int) - 1) == 0 && (-1 : Int) == 1 && items.length == items.toArray.size) = true then _ else _) _ _ s
  rw [if_neg hno, pick_rev]
  first
    | exact wpAny_bind (m := Builtin.Tuple.tupleExact _) (wpAny_newObj_type (wpAny_pure ⟨_, rfl, wpAny_pure h⟩) htake)
    | exact wpAny_bind (m := Builtin.Tuple.tupleExact _) (wpAny_newObj_type (wpAny_bind (wpAny_pure (wpAny_pure ⟨_, rfl, wpAny_pure h⟩))) htake)
    | exact wpAny_bind (wpAny_bind (m := Builtin.Tuple.tupleExact _) (wpAny_newObj_type (wpAny_pure (wpAny_pure ⟨_, rfl, wpAny_pure h⟩)) htake))
    | exact wpAny_bind (wpAny_bind (m := Builtin.Tuple.tupleExact _) (wpAny_newObj_type (wpAny_pure ⟨_, rfl, wpAny_pure h⟩) htake))
end
section
variable {X : Cx} {e st : Expr} {te ts : TE} {pos p2 : Pos}
def rRevT (K : PySem.W.Frag) (x : V) (H : Hp) (Q : VK) : Prop := ∃ a xs, x = .ref a ∧ SqT K H a xs ∧ ∀ p, H p = none → Q (.ref p) (upd H p (.tup xs.reverse))
def tRev (K : PySem.W.Frag) (te : TE) : TE := fun σ H Q => te σ H fun x H1 => rRevT K x H1 Q
/-- t[::-1] -/
theorem pe_rev (he : PE X e te) (hs : PE X st (tC (.int (-1)))) : PE X (.Subscript e (.Slice none none (some st) p2) pos) (tRev X.K te) := by
  refine ⟨fun pins s σ H Q I h => ?_⟩
  refine Subscript_ (thn (he.run pins s σ H _ I h) fun v s1 ⟨x, H1, I1, r1, q1⟩ => ?_)
  obtain ⟨a, xs, rfl, hx, q⟩ := q1
  refine wpAny_Slice ?_
  rw [evalPart_none]
  refine wpAny_pure ?_
  refine wpAny_pure ?_
  rw [evalPart_some]
  refine thn (hs.run pins s1 σ H1 (fun x H' => x = .int (-1) ∧ H' = H1) I1 ⟨rfl, rfl⟩) fun u s2 ⟨y, H2, I2, r2, e1, e2⟩ => ?_
  subst e1 e2
  obtain ⟨tk, rfl⟩ := r2
  cases r1
  obtain ⟨its, r, ht, hz⟩ := I2.tuple hx
  have I4 : Inv X pins σ H2 { s2 with heap := s2.heap.push { cls := .type "slice", data := .fields #[.none, .none, .int (-1) tk] } } := I2.kept (t' := s2.toks) fun b ob q => Heap.get?_push_of_some _ q
  obtain ⟨its, r, ht, hz⟩ := I4.tuple hx
  show wpAny (model X.prog X.w) X.A (subscriptTail e (.Slice none none (some st) p2) (.ref a) (.ref s2.heap.objs.size)) (EP X pins σ Q) X.xe { s2 with heap := s2.heap.push { cls := .type "slice", data := .fields #[.none, .none, .int (-1) tk] } }
  refine tail_any (ops := [.ref a, .ref s2.heap.objs.size]) ht.typeIs PyProof.Rows.slot_tuple_getitem.lookup ?_ (by with_unfolding_all rfl)
  refine getItem_tuple_rev ht (Heap.IsSliceOf.new ..) ?_ (by rw [← r.length]; exact hz)
  refine ⟨.ref _, _, I4.laid (t' := s2.toks) (o := .tup xs.reverse) (fun b ob q => Heap.get?_push_of_some _ q) (Nat.le_refl _) ?_, rfl, q _ (I4.hok.fresh (Nat.le_refl _))⟩
  exact ⟨by rw [List.length_reverse]; exact hz, _, r.reverse, IsTup.new _ _⟩
end
end Lk
set_option Elab.async false
set_option linter.all false
set_option maxRecDepth 100000
set_option maxHeartbeats 1500000
set_option pp.maxSteps 1200
set_option pp.deepTerms false
namespace K6
open PySem PySem.Spec PyProof.Rows L2 Lk
/-! ### values that do not hold the draws' list -/
def hid (as : List Addr) (H : Hp) : Hp := fun b => if b ∈ as then none else H b
theorem hid_ne {as : List Addr} {b : Addr} {H : Hp} (h : b ∉ as) : hid as H b = H b := if_neg h
theorem hid_sub {as : List Addr} {H : Hp} : Same (hid as H) H := fun b o e => by
  unfold hid at e
  split at e
  · cases e
  · exact e
/-- all but the hidden stands -/
theorem hid_but {as : List Addr} {H H' : Hp} (x : ∀ b o, b ∉ as → H b = some o → H' b = some o) : Same (hid as H) (hid as H') := fun b o e => by
  unfold hid at e ⊢
  split at e
  · cases e
  · rename_i h
    rw [if_neg h]
    exact x b o h e
theorem hid_ext {a : Addr} {as : List Addr} {H H' : Hp} (ha : a ∈ as) (x : ExtP a H H') : Same (hid as H) (hid as H') := hid_but fun b o h e => x b o (fun z => h (z ▸ ha)) e
theorem hid_same {as : List Addr} {H H' : Hp} (s : Same H H') : Same (hid as H) (hid as H') := hid_but fun b o _ e => s b o e
def OkA (as : List Addr) (H : Hp) : Prop := ∀ b ∈ as, H b ≠ none
theorem OkA.same {as : List Addr} {H H' : Hp} (h : OkA as H) (s : Same H H') : OkA as H' := fun b hb e => by
  cases z : H b with
  | none => exact h b hb z
  | some o => rw [s _ _ z] at e; cases e
theorem ne_fresh {as : List Addr} {p : Addr} {H : Hp} (ha : OkA as H) (np : H p = none) : p ∉ as := fun e => ha p e np
/-- the draws, and what is hidden stands -/
structure PotA (a : Addr) (as : List Addr) (N : Nat) (H : Hp) : Prop where
  pot : PotAt a N H
  ne : OkA as H
  mem : a ∈ as
theorem PotA.same {a : Addr} {as : List Addr} {N : Nat} {H H' : Hp} (h : PotA a as N H) (s : Same H H') : PotA a as N H' := ⟨h.pot.same s, h.ne.same s, h.mem⟩
theorem PotA.mono {a : Addr} {as : List Addr} {N M : Nat} {H : Hp} (h : PotA a as N H) (k : N ≤ M) : PotA a as M H := ⟨h.pot.mono k, h.ne, h.mem⟩
theorem PotA.ext {a : Addr} {as : List Addr} {N M : Nat} {H H' : Hp} (h : PotA a as N H) (x : ExtP a H H') (p : PotAt a M H') : PotA a as M H' := ⟨p, (fun b hb e => by
  by_cases z : b = a
  · subst z
    exact p.ne e
  · cases q : H b with
    | none => exact h.ne b hb q
    | some o => rw [x _ _ z q] at e; cases e), h.mem⟩
theorem PotA.nea {a : Addr} {as : List Addr} {N : Nat} {H : Hp} (h : PotA a as N H) {p : Addr} (np : H p = none) : p ≠ a := fun e => h.pot.ne (e ▸ np)
theorem DpAll.sub {K : PySem.W.Frag} {H : Hp} : ∀ {xs : List V} {ds : List PyData} (i j : Nat), DpAll K H xs ds → DpAll K H ((xs.drop i).take j) ((ds.drop i).take j)
  | _, [], i, j, h => by
    cases h
    simp
    exact .nil
  | _, d :: ds, i, j, h => by
    cases h with
    | cons h1 t =>
      cases i with
      | zero =>
        cases j with
        | zero => exact .nil
        | succ j => exact .cons h1 (by simpa using DpAll.sub 0 j t)
      | succ i => simpa using DpAll.sub i j t
theorem DpAll.append {K : PySem.W.Frag} {H : Hp} : ∀ {xs : List V} {ds : List PyData} {ys : List V} {es : List PyData}, DpAll K H xs ds → DpAll K H ys es → DpAll K H (xs ++ ys) (ds ++ es)
  | _, [], _, _, h, g => by
    cases h
    exact g
  | _, d :: ds, _, _, h, g => by
    cases h with
    | cons h1 t => exact .cons h1 (DpAll.append t g)
theorem DpAll.rev {K : PySem.W.Frag} {H : Hp} : ∀ {xs : List V} {ds : List PyData}, DpAll K H xs ds → DpAll K H xs.reverse ds.reverse
  | _, [], h => by
    cases h
    exact .nil
  | _, d :: ds, h => by
    cases h with
    | cons h1 t =>
      rw [List.reverse_cons, List.reverse_cons]
      exact DpAll.append (DpAll.rev t) (.cons h1 .nil)
theorem dp_new {K : PySem.W.Frag} {as : List Addr} {p : Addr} {H : Hp} {xs : List V} {ds : List PyData} (ha : OkA as H) (np : H p = none) (h : DpAll K (hid as H) xs ds) : Dp K (hid as (upd H p (.tup xs))) (.ref p) (.tuple ds) :=
  .tup (SqT.of (by rw [hid_ne (ne_fresh ha np)]; exact upd_same)) (DpAll.same (hid_same (same_new np)) h)
theorem dp_newL {K : PySem.W.Frag} {as : List Addr} {p : Addr} {H : Hp} {xs : List V} {ds : List PyData} (ha : OkA as H) (np : H p = none) (h : DpAll K (hid as H) xs ds) : Dp K (hid as (upd H p (.lst xs))) (.ref p) (.list ds) :=
  .lst (SqL.of (by rw [hid_ne (ne_fresh ha np)]; exact upd_same)) (DpAll.same (hid_same (same_new np)) h)
/-- a part of a tuple -/
theorem slice_dp {K : PySem.W.Frag} {as : List Addr} {q : Addr} {H : Hp} {ds : List PyData} {lo hi : Option Int} {Q : VK} (ha : OkA as H) (hd : Dp K (hid as H) (.ref q) (.tuple ds))
    (k : ∀ p H' es, Same H H' → (∀ e ∈ es, e ∈ ds) → es.length ≤ ds.length → Dp K (hid as H') (.ref p) (.tuple es) → Q (.ref p) H') : rSlA K (.ref q) lo hi H Q := by
  cases hd with
  | @tup _ xs _ hs h =>
    refine ⟨q, xs, rfl, sqT_same hid_sub hs, fun _ => k q H ds (Same.refl _) (fun _ h => h) (Nat.le_refl _) (.tup hs h), fun _ p np => ?_⟩
    refine k p _ ((ds.drop (HT.sIx xs.length 0 lo)).take (HT.sIx xs.length xs.length hi - HT.sIx xs.length 0 lo)) (same_new np) (fun e he => List.mem_of_mem_drop (List.mem_of_mem_take he)) ?_ (dp_new ha np (DpAll.sub _ _ h))
    rw [List.length_take, List.length_drop]
    omega
/-- two tuples, one behind the other -/
theorem cat_dp {K : PySem.W.Frag} {as : List Addr} {q r : Addr} {H : Hp} {ds es : List PyData} {Q : VK} (ha : OkA as H) (hd : Dp K (hid as H) (.ref q) (.tuple ds)) (he : Dp K (hid as H) (.ref r) (.tuple es)) (hl : ds.length + es.length ≤ 10000)
    (k : ∀ p H', Same H H' → Dp K (hid as H') (.ref p) (.tuple (ds ++ es)) → Q (.ref p) H') : rCatA K (.ref q) (.ref r) H Q := by
  cases hd with
  | @tup _ xs _ hs h =>
    cases he with
    | @tup _ ys _ hs2 h2 =>
      have l1 := DpAll.len h
      have l2 := DpAll.len h2
      refine ⟨q, r, xs, ys, rfl, rfl, sqT_same hid_sub hs, sqT_same hid_sub hs2, by rw [sizeLine_eq]; omega, fun e => ?_, fun _ e => ?_, fun _ _ p np => ?_⟩
      · have : ds = [] := List.length_eq_zero_iff.mp (by rw [← l1, e]; rfl)
        subst this
        exact k r H (Same.refl _) (.tup hs2 h2)
      · have : es = [] := List.length_eq_zero_iff.mp (by rw [← l2, e]; rfl)
        subst this
        rw [List.append_nil] at k
        exact k q H (Same.refl _) (.tup hs h)
      · exact k p _ (same_new np) (dp_new ha np (DpAll.append h h2))
theorem rev_dp {K : PySem.W.Frag} {as : List Addr} {q : Addr} {H : Hp} {ds : List PyData} {Q : VK} (ha : OkA as H) (hd : Dp K (hid as H) (.ref q) (.tuple ds))
    (k : ∀ p H', Same H H' → Dp K (hid as H') (.ref p) (.tuple ds.reverse) → Q (.ref p) H') : rRevT K (.ref q) H Q := by
  cases hd with
  | @tup _ xs _ hs h => exact ⟨q, xs, rfl, sqT_same hid_sub hs, fun p np => k p _ (same_new np) (dp_new ha np (DpAll.rev h))⟩
section
variable {X : Cx}
theorem pe_neg1 {k : Nat} {p1 p2 : Pos} : PE X (.UnaryOp .USub (.Constant (.int 1) k p1) p2) (tC (.int (-1))) := ⟨fun pins s σ H Q I h => (pe_un un_neg pe_int).run pins s σ H Q I ⟨1, rfl, h⟩⟩
end
theorem dp_hid {K : PySem.W.Frag} {as : List Addr} {H : Hp} {v : V} {d : PyData} (h : Dp K (hid as H) v d) : Dp K H v d := Dp.same hid_sub h
theorem dp_ext {K : PySem.W.Frag} {a : Addr} {as : List Addr} {H H' : Hp} {v : V} {d : PyData} (ha : a ∈ as) (h : Dp K (hid as H) v d) (x : ExtP a H H') : Dp K (hid as H') v d := Dp.same (hid_ext ha x) h
theorem nice_none : Nice 0 0 .none := ⟨by simp [PyData.canLay0], by simp [PyData.depth], by simp [PyData.weight], by simp [PyData.intsShort], by simp [PyData.showable]⟩
/-! ### what is bent -/
def ascB (z : Str) : Prop := ∀ c ∈ z.cps.toList, c < 128
theorem asc_ok {z : Str} (h : ascB z) : PyData.strOk z = true := by
  unfold PyData.strOk
  rw [Array.all_eq_true]
  intro i hi
  have := h z.cps[i] (by simp)
  exact decide_eq_true (by omega)
theorem asc_upper {z : Str} (h : ascB z) : PyData.strOk (Txt.upper z) = true ∧ (Txt.upper z).length = z.length := by
  rw [PyProof.Rows.upper_ascii h]
  refine ⟨asc_ok fun c hc => ?_, by simp [Str.length]⟩
  rw [Array.toList_map] at hc
  obtain ⟨b, hb, rfl⟩ := List.mem_map.mp hc
  have := h b hb
  unfold PyProof.Rows.up1
  split <;> omega
def B0 (d : PyData) : Prop := ∃ z, d = .str z ∧ ascB z ∧ z.length ≤ 8
def Bn : Nat → PyData → Prop
  | 0 => fun _ => False
  | j + 1 => fun d => B0 d ∨ ∃ ds, d = .tuple ds ∧ ds.length ≤ 6 ∧ ∀ e ∈ ds, Bn j e
def cB : Nat → Nat
  | 0 => 20
  | j + 1 => 13 * (cB j + 1)
theorem cB_mono : ∀ j, 20 ≤ cB j
  | 0 => Nat.le_refl _
  | j + 1 => by
    have := cB_mono j
    show 20 ≤ 13 * (cB j + 1)
    omega
theorem bn_nice : ∀ (j : Nat) (d : PyData), Bn j d → Nice (cB j) j d
  | 0, d, h => h.elim
  | j + 1, d, h => by
    have c := cB_mono (j + 1)
    rcases h with ⟨z, rfl, za, zl⟩ | ⟨ds, rfl, dl, hd⟩
    · exact (Nice.str (asc_ok za) zl).mono (by omega) (by omega)
    · exact (Nice.tup (fun e he => bn_nice j e (hd e he)) (show ds.length ≤ 13 by omega)).mono (Nat.le_refl _) (Nat.le_refl _)
end K6
set_option Elab.async false
set_option linter.all false
set_option maxRecDepth 100000
set_option maxHeartbeats 4000000
namespace K6
open PySem PySem.Spec PyProof.Rows L2 Lk
abbrev sOdd : Stmt := top 24
mutual
theorem dw_dp {K : PySem.W.Frag} {H : Hp} : ∀ {d : PyData} {v : V}, DW H v d → PyData.canLay0 d = true → Dp K H v d
  | .none, _, h, _ => by cases h; exact .non
  | .bool b, _, h, _ => by cases h; exact .bl b
  | .int i, _, h, _ => by cases h; exact .int i
  | .str x, _, h, _ => by cases h; exact .str x
  | .list ds, _, h, l => by
    cases h with
    | lst h1 _ h2 => exact .lst (SqL.of h1) (dws_dp h2 (by simpa [PyData.canLay0] using l))
  | .tuple ds, _, h, l => by
    cases h with
    | tup h1 h2 => exact .tup (SqT.of h1) (dws_dp h2 (by simpa [PyData.canLay0] using l))
  | .dict _, _, h, l => by simp [PyData.canLay0] at l
theorem dws_dp {K : PySem.W.Frag} {H : Hp} : ∀ {ds : List PyData} {vs : List V}, DWs H vs ds → PyData.canLayAll0 ds = true → DpAll K H vs ds
  | [], _, h, _ => by cases h; exact .nil
  | d :: ds, _, h, l => by
    cases h with
    | cons h1 h2 =>
      simp only [PyData.canLayAll0, Bool.and_eq_true] at l
      exact .cons (dw_dp h1 l.1) (dws_dp h2 l.2)
end
section
variable {P : Program} {w : World} {K : PySem.W.Frag} {mg : Str → Option Value} {base : Heap} {f : Addr} {fd : FuncData}
/-! ### _law_odd -/
def odd1 : List PyData := [.none, .bool true, .bool false, .int 0, .int 1, .int (-1), .int 2, .int 7, .str "", .str "a", .str "x", .str "01", .str "write", .tuple [], .list [], .dict [],
  .tuple [.int 0], .tuple [.tuple []], .list [.int 0], .dict [(.str "a", .int 1)]]
def odd2 : List PyData := [.tuple [.str "a"], .tuple [.str "a", .str "b"], .tuple [.tuple [.str "a"]], .tuple [.tuple [.str "a"], .tuple [.str "b"]], .tuple [.str "a", .int 0], .tuple [.tuple [.str "a", .int 0]],
  .tuple [.str "back", .tuple []], .tuple [.none], .str "A"]
def spOdd : Sp := fun vs H Q _ => ∃ (a : Addr) (N : Nat), vs = [.ref a] ∧ PotAt a N H ∧ N ≤ 1000000 ∧
  ∀ (v : V) (d : PyData) (H' : Hp), d ∈ odd1 ++ odd2 → ExtP a H H' → PotAt a (N + 1) H' → DW (sub H H') v d → Q v H'
theorem scOdd : FnScope ["pot", "some"] ["pot"] (defScope sOdd) := ⟨rfl, rfl, rfl, by decide +kernel, rfl, by decide +kernel, by decide +kernel⟩
theorem ok_odd {f1 f2 : Addr} {fd1 fd2 : FuncData} (F : Fun K "_law_odd" "_law_odd" sOdd f fd) (T : Bl mg) (F1 : Fun K "_law_take" "_law_take" sTake f1 fd1) (b1 : Binds K fd1 ["pot", "upto"] []) (m1 : mg "_law_take" = some (.ref f1))
    (F2 : Fun K "_law_of" "_law_of" sOf f2 fd2) (b2 : Binds K fd2 ["pot", "some"] []) (m2 : mg "_law_of" = some (.ref f2)) : FnOk P w K mg base CX0 3 f fd ["pot"] spOdd := by
  have G2 : FnOk P w K mg base CX0 2 f2 fd2 ["pot", "some"] spOf := ok_of F2 T F1 b1 m1
  refine F.ok scOdd (fun vs H Q E h => ?_) (fun cdv A outer s H vs Q E hr h => ?_)
  · obtain ⟨a, N, rfl, _⟩ := h
    rfl
  · obtain ⟨a, N, rfl, hp, hN, k⟩ := h
    have nd := scOdd.nd
    refine ⟨_, pss_cons (ps_set (i := 1) nd rfl (.inl rfl) (te := tFr (.list odd1)) ?_) (pss_cons (ps_set (i := 1) nd rfl (.inl rfl) (pe_op op_cat (pv 1) (tb := tFr (.list odd2)) ?_))
      (pss_one (ps_ret (pe_call G2 hr rfl m2 F2.kp b2 .nil pass0 (pa_cons (pv 0) (pa_cons (pv 1) pa_nil)))))), ?_⟩
    · repeat (first | exact pds_nil | refine pds_cons ?_ ?_ | exact pd_int | exact pd_str | exact pd_bl | exact pd_non | exact pd_neg | exact pd_dict0 | refine pd_dict1 ?_ | refine pd_tup ?_ | refine pd_lst ?_)
    · repeat (first | exact pds_nil | refine pds_cons ?_ ?_ | exact pd_int | exact pd_str | exact pd_bl | exact pd_non | exact pd_neg | exact pd_dict0 | refine pd_dict1 ?_ | refine pd_tup ?_ | refine pd_lst ?_)
    · intro v1 H1 s1 d1
      cases d1 with
      | @lst l1 xs1 _ e1 n1 w1 =>
        refine ⟨_, rfl, fun v2 H2 s2 d2 => ?_⟩
        cases d2 with
        | @lst l2 xs2 _ e2 n2 w2 =>
          have z1 := w1.length
          have z2 := w2.length
          refine ⟨l1, l2, xs1, xs2, rfl, rfl, s2 _ _ (of_sub e1).2, (of_sub e2).2, ?_, fun p np => ?_⟩
          · rw [z1, z2, sizeLine_eq]; decide
          have s3 : Same H2 (upd H2 p (.lst (xs1 ++ xs2))) := same_new np
          have sAll := (s1.trans s2).trans s3
          have hp3 := hp.same sAll
          have npa : p ≠ a := by
            obtain ⟨o, b, c, e, _⟩ := hp.same (s1.trans s2)
            exact fun z => by rw [z, e] at np; cases np
          refine ⟨_, rfl, _, rfl, a, p, N, xs1 ++ xs2, rfl, hp3, hN, npa, upd_same, ?_, ?_, fun i x H' hx ex hp' => ?_⟩
          · rw [List.length_append, z1, z2]; decide
          · rw [List.length_append, z1, z2]; decide
          have ds : DWs (sub H (upd H2 p (.lst (xs1 ++ xs2)))) (xs1 ++ xs2) (odd1 ++ odd2) := by
            have q1 : DWs (sub H (upd H2 p (.lst (xs1 ++ xs2)))) xs1 odd1 := w1.same (sub_more (s2.trans s3))
            have q2 : DWs (sub H (upd H2 p (.lst (xs1 ++ xs2)))) xs2 odd2 := (w2.same (sub_less s1)).same (sub_more s3)
            exact q1.append q2
          obtain ⟨d, hd, dw⟩ := ds.get' hx
          refine k x d H' (List.mem_of_getElem? hd) ((ExtP.of sAll).trans ex) hp' (dw.same fun b o e => ?_)
          obtain ⟨e0, e3⟩ := of_sub e
          refine sub_of e0 (ex b o (fun z => ?_) e3)
          obtain ⟨_, _, _, ea, _⟩ := hp
          rw [z, ea] at e0
          cases e0
/-- what is drawn, as any value -/
theorem odd_vd {as : List Addr} {H H' : Hp} {v : V} {d : PyData} (hp : OkA as H) (hd : d ∈ odd1 ++ odd2) (h : DW (sub H H') v d) : ∃ e, VD K (hid as H') v e := by
  have s : Same (sub H H') (hid as H') := fun b o e => by
    obtain ⟨e0, e1⟩ := of_sub e
    rw [hid_ne (fun z : b ∈ as => hp b z e0)]
    exact e1
  have h := h.same s
  have key : ∀ d ∈ odd1 ++ odd2, (∃ ps, d = .dict ps ∧ (ps = [] ∨ ps = [(.str "a", .int 1)])) ∨ Nice 100000 30 d := by
    have e : ((odd1 ++ odd2).all fun d => (match d with | .dict [] => true | .dict [(.str z, .int i)] => decide (z = "a") && decide (i = 1) | _ => false) || (d.canLay0 && (decide (d.depth ≤ 30) && (decide (d.weight ≤ 100000) && (d.intsShort 13 && d.showable))))) = true := by decide +kernel
    intro d hd
    have := List.all_eq_true.mp e d hd
    rcases Bool.or_eq_true_iff.mp this with h | h
    · split at h
      · exact .inl ⟨_, rfl, .inl rfl⟩
      · rw [Bool.and_eq_true, decide_eq_true_eq, decide_eq_true_eq] at h
        obtain ⟨rfl, rfl⟩ := h
        exact .inl ⟨_, rfl, .inr rfl⟩
      · cases h
    · simp only [Bool.and_eq_true, decide_eq_true_eq] at h
      obtain ⟨h1, h2, h3, h4, h5⟩ := h
      exact .inr ⟨h1, h2, h3, h4, h5⟩
  rcases key d hd with ⟨ps, rfl, few⟩ | n
  · cases h with
    | @dic b kvs _ hb hk => exact ⟨.dict ps, .inr ⟨b, kvs, ps, rfl, hb, rfl, hk, few⟩⟩
  · exact ⟨d, .inl ⟨dw_dp h n.lay, n⟩⟩
end
end K6
set_option Elab.async false
set_option linter.all false
set_option maxRecDepth 100000
set_option maxHeartbeats 1500000
set_option pp.maxSteps 1200
set_option pp.deepTerms false
namespace K6
open PySem PySem.Spec PyProof.Rows L2 Lk
abbrev sBent : Stmt := top 25
section
variable {P : Program} {w : World} {K : PySem.W.Frag} {mg : Str → Option Value} {base : Heap} {f : Addr} {fd : FuncData}
/-! ### _law_bent -/
def spBent (K : PySem.W.Frag) (j : Nat) : Sp := fun vs H Q _ => ∃ (a : Addr) (as : List Addr) (v : V) (d : PyData) (N : Nat), vs = [.ref a, v] ∧ PotA a as N H ∧ N + 2 * j ≤ 100000 ∧ j ≤ 50 ∧ Dp K (hid as H) v d ∧ Bn j d ∧
  ∀ (u : V) (e : PyData) (H' : Hp), ExtP a H H' → PotA a as (N + 2 * j) H' → Dp K (hid as H') u e → Nice (cB j) j e → Q u H'
theorem scBent : FnScope ["pot", "value", "at"] ["pot", "value"] (defScope sBent) := ⟨rfl, rfl, rfl, by decide +kernel, rfl, by decide +kernel, by decide +kernel⟩
/-- one of a list of data -/
theorem pick_dp {K : PySem.W.Frag} {a : Addr} {as : List Addr} {H H' : Hp} {xs : List V} {ds : List PyData} {c k : Nat} (ha : a ∈ as) (h : DpAll K (hid as H) xs ds) (n : ∀ d ∈ ds, Nice c k d) {i : Nat} {x : V} (hx : xs[i]? = some x) (x' : ExtP a H H') : ∃ d, Dp K (hid as H') x d ∧ Nice c k d := by
  have l := DpAll.len h
  have hi : i < ds.length := by
    rw [← l]
    exact (List.getElem?_eq_some_iff.mp hx).1
  obtain ⟨v, e, g⟩ := DpAll.get h (List.getElem?_eq_getElem hi)
  rw [hx] at e
  cases e
  exact ⟨_, dp_ext ha g x', n _ (List.getElem_mem hi)⟩
theorem asc_app {z y : Str} (hz : ascB z) (hy : ascB y) : ascB (z ++ y) := fun c hc => by
  have e : (z ++ y).cps = z.cps ++ y.cps := rfl
  rw [e, Array.toList_append] at hc
  exact (List.mem_append.mp hc).elim (hz c) (hy c)
theorem asc_cut {z : Str} (hz : ascB z) (lo hi : Option Int) : ascB (cutS z lo hi) := fun c hc => hz c (List.mem_of_mem_drop (List.mem_of_mem_take hc))
theorem asc_a : ascB "a" := by unfold ascB; decide +kernel
theorem ok_bentJ {f1 f2 : Addr} {fd1 fd2 : FuncData} (F : Fun K "_law_bent" "_law_bent" sBent f fd) (T : Bl mg) (Cc : Cn mg) (hB : mg "bool" = none) (aB : At K mg "_law_bent" f fd ["pot", "value"])
    (G1 : FnOk P w K mg base CX0 1 f1 fd1 ["pot", "upto"] spTake) (a1 : At K mg "_law_take" f1 fd1 ["pot", "upto"])
    (G2 : FnOk P w K mg base CX0 2 f2 fd2 ["pot", "some"] (spOfA K)) (a2 : At K mg "_law_of" f2 fd2 ["pot", "some"]) :
    ∀ j, FnOk P w K mg base CX0 (j + 3) f fd ["pot", "value"] (spBent K j) := by
  intro j
  induction j with
  | zero =>
    refine F.ok scBent (fun vs H Q E h => ?_) (fun cdv A outer s H vs Q E hr h => ?_)
    · obtain ⟨a, as, v, d, N, rfl, _⟩ := h
      rfl
    · obtain ⟨a, as, v, d, N, rfl, _, _, _, _, hb, _⟩ := h
      exact hb.elim
  | succ j G0 =>
  refine F.ok scBent (fun vs H Q E h => ?_) (fun cdv A outer s H vs Q E hr h => ?_)
  · obtain ⟨a, as, v, d, N, rfl, _⟩ := h
    rfl
  · obtain ⟨a, as, v, d, N, rfl, hp, hN, hj, hv, hb, k⟩ := h
    have nd := scBent.nd
    have hu64 := room64 hr
    have hr1 : Room 1 _ := hr.mono (by omega)
    have hr2 : Room 2 _ := hr.mono (by omega)
    refine ⟨_, pss_cons (ps_if (PW.pt (pw_and (pt_val (pe_callB call_isi (by rfl) T.isin boot_isinstance (pa_cons (pv 1) (pa_cons (pe_bltn (v := .ty "tuple") (by rfl) Cc.tuple rfl rfl) pa_nil)))) (pw_and (pt_cmpR (op_neD hu64) (pv 1) (pe_tup pa_nil) (nomark _))
            (pw_and1 (pt_cmpR op_gt (pe_call G1 hr1 (by rfl) a1.m a1.kp a1.b .nil pass0 (pa_cons (pv 0) (pa_cons pe_int pa_nil))) pe_int (nomark _))))))
          (pss_cons (ps_set (i := 2) nd rfl (.inl rfl) (pe_call G1 hr1 (by rfl) a1.m a1.kp a1.b .nil pass0 (pa_cons (pv 0) (pa_cons (pe_callB call_len_seq (by rfl) T.len PySem.boot_len (pa_cons (pv 1) pa_nil)) pa_nil))))
          (pss_one (ps_ret (pe_op op_catA (pe_op op_catA (pe_slice sl_tupA (pv 1) po_none (po_some (pv 2))) (pe_tup (pa_cons (pe_call G0 hr (by rfl) aB.m aB.kp aB.b .nil pass0 (pa_cons (pv 0) (pa_cons (pe_ix ix_tup (pv 1) (pv 2) (fun _ _ => rfl)) pa_nil))) pa_nil))) (pe_slice sl_tupA (pv 1) (po_some (pe_op op_add (pv 2) pe_int)) po_none))))) pss_nil)
      (pss_cons (ps_if (pt_val (pe_callB call_isi (by rfl) T.isin boot_isinstance (pa_cons (pv 1) (pa_cons (pe_bltn (v := .ty "tuple") (by rfl) Cc.tuple rfl rfl) pa_nil))))
          (pss_one (ps_ret (pe_call G2 hr2 (by rfl) a2.m a2.kp a2.b .nil pass0 (pa_cons (pv 0) (pa_cons (pe_lst (pa_cons (pe_callTy call_list_of rfl T.list boot_list (pa_cons (pv 1) pa_nil)) (pa_cons (pe_slice sl_tupA (pv 1) (po_some pe_int) po_none) (pa_cons (pe_slice sl_tupA (pv 1) po_none (po_some pe_neg1))
            (pa_cons (pe_op op_catA (pv 1) (pe_slice sl_tupA (pv 1) (po_some pe_neg1) po_none)) (pa_cons (pe_rev (pv 1) pe_neg1) (pa_cons (pe_tup pa_nil) (pa_cons pe_non pa_nil)))))))) pa_nil))))) pss_nil)
      (pss_cons (ps_if (pt_val (pe_callB call_isi (by rfl) T.isin boot_isinstance (pa_cons (pv 1) (pa_cons (pe_bltn (v := .ty "bool") (by rfl) hB rfl rfl) pa_nil)))) pss_no pss_nil)
      (pss_cons (ps_if (pt_val (pe_callB call_isi (by rfl) T.isin boot_isinstance (pa_cons (pv 1) (pa_cons (pe_bltn (v := .ty "int") (by rfl) T.int rfl rfl) pa_nil)))) pss_no pss_nil)
      (pss_cons (ps_if (pt_val (pe_callB call_isi (by rfl) T.isin boot_isinstance (pa_cons (pv 1) (pa_cons (pe_bltn (v := .ty "str") (by rfl) Cc.str rfl rfl) pa_nil))))
          (pss_one (ps_ret (pe_call G2 hr2 (by rfl) a2.m a2.kp a2.b .nil pass0 (pa_cons (pv 0) (pa_cons (pe_lst (pa_cons (pe_op op_add_str (pv 1) pe_str) (pa_cons (pe_slice sl_str (pv 1) po_none (po_some pe_neg1)) (pa_cons (pe_upper (pv 1)) (pa_cons pe_str (pa_cons pe_str (pa_cons pe_non (pa_cons pe_int (pa_cons (pe_lst (pa_cons (pv 1) pa_nil)) pa_nil))))))))) pa_nil))))) pss_nil)
      pss_no)))), ?_⟩
    rcases hb with ⟨z, rfl, za, zl⟩ | ⟨ds, rfl, dl, hd⟩
    · cases hv
      refine ⟨_, rfl, _, _, _, _, false, rfl, .ty _, .base (.str _), by rfl, _, rfl, iteB rfl (iteB rfl ?_)⟩
      refine ⟨_, rfl, _, _, _, _, false, rfl, .ty _, .base (.str _), by rfl, _, rfl, iteB rfl ?_⟩
      refine ⟨_, rfl, _, _, _, _, false, rfl, .ty _, .base (.str _), by rfl, _, rfl, iteB rfl ?_⟩
      refine ⟨_, rfl, _, _, _, _, false, rfl, .ty _, .base (.str _), by rfl, _, rfl, iteB rfl ?_⟩
      refine ⟨_, rfl, _, _, _, _, true, rfl, .ty _, .base (.str _), by rfl, _, rfl, iteT ?_⟩
      have zs : z.length ≤ sizeLine := by rw [sizeLine_eq]; omega
      have a1 : ("a" : Str).length = 1 := by decide +kernel
      refine ⟨_, rfl, _, rfl, z, "a", rfl, rfl, by rw [sizeLine_eq, a1]; omega, _, rfl, _, rfl, z, rfl, zs, _, rfl, ⟨_, rfl⟩, z, rfl, rfl, by omega, ?_⟩
      refine ⟨_, rfl, few_ok rfl, fun l1 nl1 => ⟨few_ok rfl, fun l2 nl2 => ?_⟩⟩
      have d1 : Dp K (hid as (upd H l1 (.lst [.str z]))) (.ref l1) (.list [.str z]) := dp_newL hp.ne nl1 (.cons (.str _) .nil)
      have s1 : Same H (upd H l1 (.lst [.str z])) := same_new nl1
      generalize upd H l1 (.lst [.str z]) = H1 at d1 s1 nl2 ⊢
      have p1 := hp.same s1
      have c20 := cB_mono (j + 1)
      obtain ⟨DS, all1, nall⟩ : ∃ DS, DpAll K (hid as H1) [.str (z ++ "a"), .str (cutS z none (some (-1))), .str (Txt.upper z), .str "a", .str "back", .non, .int 0, .ref l1] DS ∧ ∀ e ∈ DS, Nice (cB (j + 1)) (j + 1) e := by
        refine ⟨[.str (z ++ "a"), .str (cutS z none (some (-1))), .str (Txt.upper z), .str "a", .str "back", .none, .int 0, .list [.str z]], .cons (.str _) (.cons (.str _) (.cons (.str _) (.cons (.str _) (.cons (.str _) (.cons .non (.cons (.int _) (.cons d1 .nil))))))), fun e he => ?_⟩
        simp only [List.mem_cons, List.not_mem_nil, or_false] at he
        rcases he with rfl | rfl | rfl | rfl | rfl | rfl | rfl | rfl
        · exact (Nice.str (n := 9) (asc_ok (asc_app za asc_a)) (by show (z.cps ++ ("a" : Str).cps).size ≤ 9; rw [Array.size_append]; have : ("a" : Str).cps.size = 1 := a1; have : z.cps.size ≤ 8 := zl; omega)).mono (by omega) (by omega)
        · exact (Nice.str (n := 9) (asc_ok (asc_cut za _ _)) (by have := cutS_length z none (some (-1)); omega)).mono (by omega) (by omega)
        · exact (Nice.str (n := 9) (asc_upper za).1 (by rw [(asc_upper za).2]; omega)).mono (by omega) (by omega)
        · exact (Nice.str (n := 9) (asc_ok asc_a) (by decide +kernel)).mono (by omega) (by omega)
        · exact (Nice.str (n := 9) (by decide +kernel) (by decide +kernel)).mono (by omega) (by omega)
        · exact nice_none.mono (Nat.zero_le _) (Nat.zero_le _)
        · exact (Nice.nat (i := 0) (by decide)).mono (by omega) (Nat.zero_le _)
        · refine (Nice.lst (c := 8) (k := 0) (m := 1) (fun e he => ?_) (by simp)).mono (by omega) (by omega)
          rw [List.mem_singleton.mp he]
          exact Nice.str (asc_ok za) zl
      have s2 : Same H1 (upd H1 l2 (.lst [.str (z ++ "a"), .str (cutS z none (some (-1))), .str (Txt.upper z), .str "a", .str "back", .non, .int 0, .ref l1])) := same_new nl2
      refine ⟨a, l2, _, _, rfl, (p1.same s2).pot, by omega, p1.nea nl2, .inl upd_same, (show 0 < 8 by decide), (show 8 ≤ 1000 by decide), fun i x H' hx x' p' => ?_⟩
      obtain ⟨e, de, ne⟩ := pick_dp hp.mem (DpAll.same (hid_same s2) all1) nall hx x'
      exact k _ e _ ((ExtP.of (s1.trans s2)).trans x') (((p1.same s2).ext x' p').mono (by omega)) de ne
    · have hvv := hv
      cases hv with
      | @tup q xs _ hs h =>
        have xl := DpAll.len h
        have shp : SeqAt.shaped (.tuple ds) = true := (bn_nice (j + 1) (.tuple ds) (.inr ⟨ds, rfl, dl, hd⟩)).shaped (by omega)
        refine ⟨_, rfl, _, _, _, _, true, rfl, .ty _, sqT_ty (sqT_same hid_sub hs), by rfl, _, rfl, iteT ?_⟩
        refine ⟨_, rfl, few_ok rfl, fun e0 ne0 => ?_⟩
        have s0 : Same H (upd H e0 (.tup [])) := same_new ne0
        refine ⟨.tuple ds, .tuple [], dp_hid (Dp.same (hid_same s0) hvv), .tup (SqT.of upd_same) .nil, shp, by decide, _, rfl, ?_⟩
        generalize upd H e0 (.tup []) = H0 at s0 ⊢
        have p0 := hp.same s0
        have hs0 : SqT K (hid as H0) q xs := sqT_same (hid_same s0) hs
        have h0 := DpAll.same (hid_same s0) h
        have X0 : ExtP a H H0 := .of s0
        by_cases en : ds = []
        · refine iteB (by subst en; simp [PyData.eqv, PyData.eqvAll]) (iteB rfl ?_)
          refine ⟨_, rfl, _, _, _, _, true, rfl, .ty _, sqT_ty (sqT_same hid_sub hs0), by rfl, _, rfl, iteT ?_⟩
          refine ⟨_, rfl, _, rfl, q, xs, rfl, .inr (sqT_same hid_sub hs0), fun l1 nl1 => ?_⟩
          have d1 : Dp K (hid as (upd H0 l1 (.lst xs))) (.ref l1) (.list ds) := dp_newL p0.ne nl1 h0
          have s1 : Same H0 (upd H0 l1 (.lst xs)) := same_new nl1
          generalize upd H0 l1 (.lst xs) = H1 at d1 s1 ⊢
          have p1 := p0.same s1
          have v1 : Dp K (hid as H1) (.ref q) (.tuple ds) := Dp.same (hid_same s1) (.tup hs0 h0)
          refine ⟨_, rfl, _, rfl, ?_⟩
          try unfold tNoPart
          refine slice_dp p1.ne v1 fun q2 H2 e2 s2 m2 l2 d2 => ?_
          have p2 := p1.same s2
          have v2 := Dp.same (hid_same s2) v1
          refine ⟨_, rfl, _, rfl, ?_⟩
          try unfold tNoPart
          refine slice_dp p2.ne v2 fun q3 H3 e3 s3 m3 l3 d3 => ?_
          have p3 := p2.same s3
          have v3 := Dp.same (hid_same s3) v2
          refine ⟨_, rfl, _, rfl, _, rfl, ?_⟩
          try unfold tNoPart
          refine slice_dp p3.ne v3 fun q4 H4 e4 s4 m4 l4 d4 => ?_
          have p4 := p3.same s4
          have v4 := Dp.same (hid_same s4) v3
          refine cat_dp p4.ne v4 d4 (by omega) fun q5 H5 s5 d5 => ?_
          have p5 := p4.same s5
          have v5 := Dp.same (hid_same s5) v4
          refine ⟨_, rfl, rev_dp p5.ne v5 fun q6 H6 s6 d6 => ?_⟩
          have p6 := p5.same s6
          refine ⟨few_ok rfl, fun q7 nq7 => ⟨few_ok rfl, fun q8 nq8 => ?_⟩⟩
          have d7 : Dp K (hid as (upd H6 q7 (.tup []))) (.ref q7) (.tuple []) := dp_new p6.ne nq7 .nil
          have s7 : Same H6 (upd H6 q7 (.tup [])) := same_new nq7
          generalize upd H6 q7 (.tup []) = H7 at d7 s7 nq8 ⊢
          have p7 := p6.same s7
          have t36 := ((s4.trans s5).trans s6).trans s7
          obtain ⟨DS, all7, nall⟩ : ∃ DS, DpAll K (hid as H7) [.ref l1, .ref q2, .ref q3, .ref q5, .ref q6, .ref q7, .non] DS ∧ ∀ e ∈ DS, Nice (cB (j + 1)) (j + 1) e := by
            refine ⟨[.list ds, .tuple e2, .tuple e3, .tuple (ds ++ e4), .tuple ds.reverse, .tuple [], .none], .cons (Dp.same (hid_same ((s2.trans s3).trans t36)) d1) (.cons (Dp.same (hid_same (s3.trans t36)) d2) (.cons (Dp.same (hid_same t36) d3) (.cons (Dp.same (hid_same (s6.trans s7)) d5) (.cons (Dp.same (hid_same s7) d6) (.cons d7 (.cons .non .nil)))))), fun e he => ?_⟩
            have nt : ∀ es : List PyData, (∀ e ∈ es, e ∈ ds) → es.length ≤ 6 → Nice (cB (j + 1)) (j + 1) (.tuple es) := fun es hes hl => (Nice.tup (fun e he => bn_nice j e (hd e (hes e he))) (show es.length ≤ 13 by omega)).mono (Nat.le_refl _) (Nat.le_refl _)
            simp only [List.mem_cons, List.not_mem_nil, or_false] at he
            rcases he with rfl | rfl | rfl | rfl | rfl | rfl | rfl
            · exact (Nice.lst (fun e he => bn_nice j e (hd e he)) (show ds.length ≤ 13 by omega)).mono (Nat.le_refl _) (Nat.le_refl _)
            · exact nt _ m2 (by omega)
            · exact nt _ m3 (by omega)
            · refine (Nice.tup (c := cB j) (k := j) (m := 13) (fun e he => ?_) ?_).mono (Nat.le_refl _) (Nat.le_refl _)
              · exact (List.mem_append.mp he).elim (fun h => bn_nice j e (hd e h)) fun h => bn_nice j e (hd e (m4 e h))
              · rw [List.length_append]
                omega
            · exact nt _ (fun e he => List.mem_reverse.mp he) (by rw [List.length_reverse]; omega)
            · exact nt [] (fun e he => by cases he) (by simp)
            · exact nice_none.mono (Nat.zero_le _) (Nat.zero_le _)
          have s8 : Same H7 (upd H7 q8 (.lst [.ref l1, .ref q2, .ref q3, .ref q5, .ref q6, .ref q7, .non])) := same_new nq8
          refine ⟨a, q8, _, _, rfl, (p7.same s8).pot, by omega, p7.nea nq8, .inl upd_same, (show 0 < 7 by decide), (show 7 ≤ 1000 by decide), fun i x H' hx x' p' => ?_⟩
          obtain ⟨e, de, ne⟩ := pick_dp hp.mem (DpAll.same (hid_same s8) all7) nall hx x'
          have s18 := (((s1.trans s2).trans s3).trans t36).trans s8
          exact k _ e _ (X0.trans ((ExtP.of s18).trans x')) (((p7.same s8).ext x' p').mono (by omega)) de ne
        refine iteA (by cases ds with | nil => exact absurd rfl en | cons d ds => simp [PyData.eqv, PyData.eqvAll]) ?_
        have dpos : 0 < ds.length := List.length_pos_iff.mpr en
        refine ⟨_, rfl, a, 7, _, rfl, p0.pot, by omega, by decide, by decide, fun i9 H9 i90 i97 x9 p9 => ⟨_, _, rfl, rfl, _, rfl, ?_⟩⟩
        have p9 := p0.ext x9 p9
        have hs2 : SqT K (hid as H9) q xs := sqT_same (hid_ext hp.mem x9) hs0
        have h9 := DpAll.same (hid_ext hp.mem x9) h0
        have X9 : ExtP a H H9 := X0.trans x9
        by_cases ig : 0 < i9
        case neg =>
          refine iteB (decide_eq_false ig) ?_
          refine ⟨_, rfl, _, _, _, _, true, rfl, .ty _, sqT_ty (sqT_same hid_sub hs2), by rfl, _, rfl, iteT ?_⟩
          refine ⟨_, rfl, _, rfl, q, xs, rfl, .inr (sqT_same hid_sub hs2), fun l1 nl1 => ?_⟩
          have d1 : Dp K (hid as (upd H9 l1 (.lst xs))) (.ref l1) (.list ds) := dp_newL p9.ne nl1 h9
          have s1 : Same H9 (upd H9 l1 (.lst xs)) := same_new nl1
          generalize upd H9 l1 (.lst xs) = H1 at d1 s1 ⊢
          have p1 := p9.same s1
          have v1 : Dp K (hid as H1) (.ref q) (.tuple ds) := Dp.same (hid_same s1) (.tup hs2 h9)
          refine ⟨_, rfl, _, rfl, ?_⟩
          try unfold tNoPart
          refine slice_dp p1.ne v1 fun q2 H2 e2 s2 m2 l2 d2 => ?_
          have p2 := p1.same s2
          have v2 := Dp.same (hid_same s2) v1
          refine ⟨_, rfl, _, rfl, ?_⟩
          try unfold tNoPart
          refine slice_dp p2.ne v2 fun q3 H3 e3 s3 m3 l3 d3 => ?_
          have p3 := p2.same s3
          have v3 := Dp.same (hid_same s3) v2
          refine ⟨_, rfl, _, rfl, _, rfl, ?_⟩
          try unfold tNoPart
          refine slice_dp p3.ne v3 fun q4 H4 e4 s4 m4 l4 d4 => ?_
          have p4 := p3.same s4
          have v4 := Dp.same (hid_same s4) v3
          refine cat_dp p4.ne v4 d4 (by omega) fun q5 H5 s5 d5 => ?_
          have p5 := p4.same s5
          have v5 := Dp.same (hid_same s5) v4
          refine ⟨_, rfl, rev_dp p5.ne v5 fun q6 H6 s6 d6 => ?_⟩
          have p6 := p5.same s6
          refine ⟨few_ok rfl, fun q7 nq7 => ⟨few_ok rfl, fun q8 nq8 => ?_⟩⟩
          have d7 : Dp K (hid as (upd H6 q7 (.tup []))) (.ref q7) (.tuple []) := dp_new p6.ne nq7 .nil
          have s7 : Same H6 (upd H6 q7 (.tup [])) := same_new nq7
          generalize upd H6 q7 (.tup []) = H7 at d7 s7 nq8 ⊢
          have p7 := p6.same s7
          have t36 := ((s4.trans s5).trans s6).trans s7
          obtain ⟨DS, all7, nall⟩ : ∃ DS, DpAll K (hid as H7) [.ref l1, .ref q2, .ref q3, .ref q5, .ref q6, .ref q7, .non] DS ∧ ∀ e ∈ DS, Nice (cB (j + 1)) (j + 1) e := by
            refine ⟨[.list ds, .tuple e2, .tuple e3, .tuple (ds ++ e4), .tuple ds.reverse, .tuple [], .none], .cons (Dp.same (hid_same ((s2.trans s3).trans t36)) d1) (.cons (Dp.same (hid_same (s3.trans t36)) d2) (.cons (Dp.same (hid_same t36) d3) (.cons (Dp.same (hid_same (s6.trans s7)) d5) (.cons (Dp.same (hid_same s7) d6) (.cons d7 (.cons .non .nil)))))), fun e he => ?_⟩
            have nt : ∀ es : List PyData, (∀ e ∈ es, e ∈ ds) → es.length ≤ 6 → Nice (cB (j + 1)) (j + 1) (.tuple es) := fun es hes hl => (Nice.tup (fun e he => bn_nice j e (hd e (hes e he))) (show es.length ≤ 13 by omega)).mono (Nat.le_refl _) (Nat.le_refl _)
            simp only [List.mem_cons, List.not_mem_nil, or_false] at he
            rcases he with rfl | rfl | rfl | rfl | rfl | rfl | rfl
            · exact (Nice.lst (fun e he => bn_nice j e (hd e he)) (show ds.length ≤ 13 by omega)).mono (Nat.le_refl _) (Nat.le_refl _)
            · exact nt _ m2 (by omega)
            · exact nt _ m3 (by omega)
            · refine (Nice.tup (c := cB j) (k := j) (m := 13) (fun e he => ?_) ?_).mono (Nat.le_refl _) (Nat.le_refl _)
              · exact (List.mem_append.mp he).elim (fun h => bn_nice j e (hd e h)) fun h => bn_nice j e (hd e (m4 e h))
              · rw [List.length_append]
                omega
            · exact nt _ (fun e he => List.mem_reverse.mp he) (by rw [List.length_reverse]; omega)
            · exact nt [] (fun e he => by cases he) (by simp)
            · exact nice_none.mono (Nat.zero_le _) (Nat.zero_le _)
          have s8 : Same H7 (upd H7 q8 (.lst [.ref l1, .ref q2, .ref q3, .ref q5, .ref q6, .ref q7, .non])) := same_new nq8
          refine ⟨a, q8, _, _, rfl, (p7.same s8).pot, by omega, p7.nea nq8, .inl upd_same, (show 0 < 7 by decide), (show 7 ≤ 1000 by decide), fun i x H' hx x' p' => ?_⟩
          obtain ⟨e, de, ne⟩ := pick_dp hp.mem (DpAll.same (hid_same s8) all7) nall hx x'
          have s18 := (((s1.trans s2).trans s3).trans t36).trans s8
          exact k _ e _ (X9.trans ((ExtP.of s18).trans x')) (((p7.same s8).ext x' p').mono (by omega)) de ne
        refine iteA (decide_eq_true ig) ?_
        refine ⟨_, rfl, _, rfl, q, xs, rfl, .inr (sqT_same hid_sub hs2), a, _, _, rfl, p9.pot, by omega, by omega, by omega, fun i1 H1 i10 i1l x1 p1 => ?_⟩
        have p1 := p9.ext x1 p1
        obtain ⟨m, rfl⟩ : ∃ m : Nat, i1 = m := ⟨i1.toNat, by omega⟩
        have ml : m < ds.length := by omega
        have v1 : Dp K (hid as H1) (.ref q) (.tuple ds) := Dp.same (hid_ext hp.mem x1) (.tup hs2 h9)
        refine ⟨_, rfl, ?_⟩
        try unfold tNoPart
        refine ⟨_, rfl, (m : Int), rfl, slice_dp p1.ne v1 fun q2 H2 e2 s2 m2 l2 d2 => ?_⟩
        have p2 := p1.same s2
        have v2 := Dp.same (hid_same s2) v1
        have hs3 : SqT K (hid as H2) q xs := sqT_same (hid_same s2) (sqT_same (hid_ext hp.mem x1) hs2)
        have h3 : DpAll K (hid as H2) xs ds := DpAll.same (hid_same s2) (DpAll.same (hid_ext hp.mem x1) h9)
        obtain ⟨x0, hx0, dx0⟩ := DpAll.get h3 (List.getElem?_eq_getElem ml)
        have bx0 := hd _ (List.getElem_mem ml)
        generalize ds[m] = d0 at dx0 bx0
        refine ⟨_, rfl, _, rfl, _, rfl, q, _, _, _, rfl, rfl, sqT_same hid_sub hs3, atI_nat hx0, a, as, x0, d0, _, rfl, p2, by omega, by omega, dx0, bx0, fun u e H3 x3 p3 d3 n3 => ⟨few_ok rfl, fun t4 nt4 => ?_⟩⟩
        have d4 : Dp K (hid as (upd H3 t4 (.tup [u]))) (.ref t4) (.tuple [e]) := dp_new p3.ne nt4 (.cons d3 .nil)
        have s4 : Same H3 (upd H3 t4 (.tup [u])) := same_new nt4
        generalize upd H3 t4 (.tup [u]) = H4 at d4 s4 ⊢
        have p4 := p3.same s4
        refine cat_dp p4.ne (Dp.same (hid_same s4) (dp_ext hp.mem d2 x3)) d4 (by simp; omega) fun q5 H5 s5 d5 => ?_
        have p5 := p4.same s5
        have v5 := Dp.same (hid_same (s4.trans s5)) (dp_ext hp.mem v2 x3)
        refine ⟨_, rfl, ?_⟩
        try unfold tNoPart
        refine ⟨_, rfl, _, _, rfl, rfl, _, rfl, slice_dp p5.ne v5 fun q6 H6 e6 s6 m6 l6 d6 => ?_⟩
        have p6 := p5.same s6
        refine cat_dp p6.ne (Dp.same (hid_same s6) d5) d6 (by simp; omega) fun q7 H7 s7 d7 => ?_
        have s47 := ((s4.trans s5).trans s6).trans s7
        refine k _ _ _ (X9.trans (x1.trans ((ExtP.of s2).trans (x3.trans (.of s47))))) ((p6.same s7).mono (by omega)) d7 ?_
        refine (Nice.tup (c := cB j) (k := j) (m := 13) (fun e' he => ?_) ?_).mono (Nat.le_refl _) (Nat.le_refl _)
        · rcases List.mem_append.mp he with he | he
          · rcases List.mem_append.mp he with he | he
            · exact bn_nice j _ (hd _ (m2 _ he))
            · rw [List.mem_singleton.mp he]
              exact n3
          · exact bn_nice j _ (hd _ (m6 _ he))
        · simp only [List.length_append, List.length_cons, List.length_nil]
          omega
theorem ok_bent {f1 f2 : Addr} {fd1 fd2 : FuncData} (F : Fun K "_law_bent" "_law_bent" sBent f fd) (T : Bl mg) (Cc : Cn mg) (hB : mg "bool" = none) (aB : At K mg "_law_bent" f fd ["pot", "value"])
    (G1 : FnOk P w K mg base CX0 1 f1 fd1 ["pot", "upto"] spTake) (a1 : At K mg "_law_take" f1 fd1 ["pot", "upto"])
    (G2 : FnOk P w K mg base CX0 2 f2 fd2 ["pot", "some"] (spOfA K)) (a2 : At K mg "_law_of" f2 fd2 ["pot", "some"]) :
    FnOk P w K mg base CX0 6 f fd ["pot", "value"] (spBent K 3) := ok_bentJ F T Cc hB aB G1 a1 G2 a2 3
end
end K6
set_option Elab.async false
set_option linter.all false
set_option maxRecDepth 100000
set_option maxHeartbeats 1500000
set_option pp.maxSteps 1200
set_option pp.deepTerms false
namespace K6
open PySem PySem.Spec PyProof.Rows L2 Lk
abbrev sLLotsR : Stmt := top 34
/-- a def that may raise, where it does not -/
theorem fn_calm {P : Program} {w : World} {K : PySem.W.Frag} {mg : Str → Option Value} {base : Heap} {k : Nat} {f : Addr} {fd : FuncData} {ps : List Str} {sp : Sp} (F : FnOk P w K mg base (L2.CX P w) k f fd ps sp) :
    FnOk P w K mg base CX0 k f fd ps (fun vs H Q _ => sp vs H Q fun _ _ _ => False) := by
  refine ⟨fun vs H Q E h => F.len vs H Q _ h, fun A outer s H args us vs Q E r e b v h => codeAny_mono (F.run A outer s H args us vs Q (fun _ _ _ => False) r e b v h) fun r s' hq => ?_⟩
  cases r with
  | error e =>
    obtain ⟨_, _, _, _, _, _, _, _, _, _, _, _, z⟩ := hq
    exact z.elim
  | ok fl => cases fl <;> exact hq
theorem CircAt.keep {K : PySem.W.Frag} {H H' : Hp} {C c : Addr} {ns : List Str} (h : CircAt K H C c ns) (k : Keep H H') : CircAt K H' C c ns := by
  obtain ⟨dx, nm, e1, e2⟩ := h
  exact ⟨dx, nm, k _ _ e1 (fun _ z => by cases z), Lk.SqT.keep e2 k⟩
theorem vd_strs {K : PySem.W.Frag} {H : Hp} {q : Addr} {zs : List Str} (h : SqT K H q (zs.map V.str)) (ok : ∀ z ∈ zs, PyData.strOk z = true ∧ z.length ≤ 8) (hl : zs.length ≤ 100) : VD K H (.ref q) (.tuple (strsD zs)) :=
  .inl ⟨.tup h (dp_strs zs), (nice_strs ok hl).mono (by decide) (by decide)⟩
section
variable {P : Program} {w : World} {K : PySem.W.Frag} {mg : Str → Option Value} {base : Heap} {f : Addr} {fd : FuncData}
/-! ### _law_of, of any tuple -/
def spOfT (K : PySem.W.Frag) : Sp := fun vs H Q _ => ∃ (a l : Addr) (N : Nat) (xs : List V), vs = [.ref a, .ref l] ∧ PotAt a N H ∧ N ≤ 1000000 ∧ SqT K H l xs ∧ 0 < xs.length ∧ xs.length ≤ 1000 ∧
  ∀ (i : Nat) (x : V) (H' : Hp), xs[i]? = some x → ExtP a H H' → PotAt a (N + 1) H' → Q x H'
theorem ok_ofT {f1 : Addr} {fd1 : FuncData} (F : Fun K "_law_of" "_law_of" sOf f fd) (T : Bl mg) (G1 : FnOk P w K mg base CX0 1 f1 fd1 ["pot", "upto"] spTake) (a1 : At K mg "_law_take" f1 fd1 ["pot", "upto"]) :
    FnOk P w K mg base CX0 2 f fd ["pot", "some"] (spOfT K) := by
  refine F.ok scOf (fun vs H Q E h => ?_) (fun cdv A outer s H vs Q E hr h => ?_)
  · obtain ⟨a, l, N, xs, rfl, _⟩ := h
    rfl
  · obtain ⟨a, l, N, xs, rfl, hp, hN, hl, h0, h1, k⟩ := h
    refine ⟨_, pss_one (ps_ret (pe_ix ix_tup (pv 1) (pe_call G1 hr rfl a1.m a1.kp a1.b .nil pass0 (pa_cons (pv 0) (pa_cons (pe_callB call_len_seq (by rfl) T.len PySem.boot_len (pa_cons (pv 1) pa_nil)) pa_nil))) (fun _ _ => rfl))), ?_⟩
    refine ⟨_, rfl, _, rfl, _, rfl, l, xs, rfl, .inr hl, a, _, N, rfl, hp, hN, by omega, by omega, fun i H' i0 i1 ex hp' => ?_⟩
    obtain ⟨x, hx⟩ : ∃ x, xs[i.toNat]? = some x := ⟨_, List.getElem?_eq_getElem (by omega)⟩
    have e : atI xs i = some x := by
      have e : i = ((i.toNat : Nat) : Int) := by omega
      rw [e]
      exact atI_nat hx
    exact ⟨l, xs, i, x, rfl, rfl, Lk.SqT.keep hl (Keep.ext hp ex), e, k i.toNat x H' hx ex hp'⟩
/-! ### _law_are_lots_right -/
def spLLotsR (K : PySem.W.Frag) (C : Addr) : Sp := fun vs H Q _ => ∃ (a nm c : Addr) (N : Nat) (ns : List Str), vs = [.ref a, .ref nm, .ref c] ∧ PotAt a N H ∧ N ≤ 50000 ∧ nm ≠ a ∧ SqT K H nm (ns.map V.str) ∧ NmOk ns ∧ 2 ≤ ns.length ∧ CircAt K H C c ns ∧
  ∀ H', ExtP a H H' → PotAt a (N + 60) H' → Q (.bl true) H'
abbrev nmLR : List Str := ["pot", "names", "ring", "one", "far", "some", "lap", "its"]
theorem scLLotsR : FnScope nmLR ["pot", "names", "ring"] (defScope sLLotsR) := ⟨rfl, rfl, rfl, by decide +kernel, rfl, by decide +kernel, by decide +kernel⟩
theorem ok_lLotsR {C CN CM fC fA fT fO fCl fCr fBo fEi fLb fLo : Addr} {dA dT dO dCl dCr dBo dEi dLb dLo : FuncData} (F : Fun K "_law_are_lots_right" "_law_are_lots_right" sLLotsR f fd) (T : Bl mg) (Cc : Cn mg) (CC : CircC K C fC)
    (GA : FnOk P w K mg base CX0 3 fA dA ["pot", "names", "few"] (spALot K)) (aA : At K mg "_law_a_lot" fA dA ["pot", "names", "few"])
    (GT : FnOk P w K mg base CX0 1 fT dT ["pot", "upto"] spTake) (aT : At K mg "_law_take" fT dT ["pot", "upto"])
    (GO : FnOk P w K mg base CX0 2 fO dO ["pot", "some"] (spOfT K)) (aO : At K mg "_law_of" fO dO ["pot", "some"])
    (GCl : FnOk P w K mg base (L2.CX P w) 3 fCl dCl ["self", "some"] (spCLot K C CM)) (hCl : Meth K C "lot" fCl) (bCl : Binds K dCl ["self", "some"] [])
    (GCr : FnOk P w K mg base (L2.CX P w) 4 fCr dCr ["self", "lot"] (spCRest K C CN)) (hCr : Meth K C "rest" fCr) (bCr : Binds K dCr ["self", "lot"] [])
    (GBo : FnOk P w K mg base (L2.CX P w) 4 fBo dBo ["circle", "one", "other"] (spBoth K C CN)) (aBo : At K mg "both" fBo dBo ["circle", "one", "other"])
    (GEi : FnOk P w K mg base (L2.CX P w) 4 fEi dEi ["circle", "one", "other"] (spEither K C CN)) (aEi : At K mg "either" fEi dEi ["circle", "one", "other"])
    (GLb : FnOk P w K mg base CX0 1 fLb dLb ["one", "other"] (spLBoth K)) (aLb : At K mg "_law_both" fLb dLb ["one", "other"])
    (GLo : FnOk P w K mg base CX0 1 fLo dLo ["names", "some"] (spLotOf K)) (aLo : At K mg "_law_lot_of" fLo dLo ["names", "some"]) :
    FnOk P w K mg base CX0 5 f fd ["pot", "names", "ring"] (spLLotsR K C) := by
  refine F.ok scLLotsR (fun vs H Q E h => ?_) (fun cdv A outer s H vs Q E hr h => ?_)
  · obtain ⟨a, nm, c, N, ns, rfl, _⟩ := h
    rfl
  · obtain ⟨a, nm, c, N, ns, rfl, hp, hN, nma, hn, nok, n2, hc, k⟩ := h
    have nd := scLLotsR.nd
    have hu64 := room64 hr
    have hr1 : Room 1 _ := hr.mono (by decide)
    have hr2 : Room 2 _ := hr.mono (by decide)
    have hr3 : Room 3 _ := hr.mono (by decide)
    refine ⟨_, pss_cons (ps_asg (pe_tup (pa_cons (pe_call GA hr3 (by rfl) aA.m aA.kp aA.b .nil pass0 (pa_cons (pv 0) (pa_cons (pv 1) (pa_cons pe_int pa_nil)))) (pa_cons (pe_call GA hr3 (by rfl) aA.m aA.kp aA.b .nil pass0 (pa_cons (pv 0) (pa_cons (pv 1) (pa_cons pe_int pa_nil)))) pa_nil))) (pg_tup rfl (pgs_cons (pg_name (i := 3) nd rfl (.inr rfl)) (pgs_cons (pg_name (i := 4) nd rfl (.inl rfl)) pgs_nil))))
      (pss_cons (ps_set (i := 5) nd rfl (.inl rfl) (pe_tupleOf (by rfl) Cc.tuple (pe_lc (own := [("lap", 6)]) (g := gName 6) (tt := tYes) (te := tCall (spOfT K) [] E0 (tCons (tVar 0) (tCons (tVar 1) tNil))) rfl nd (pi_range1 (by rfl) T.range (pa_cons (pe_call GT hr1 (by rfl) aT.m aT.kp aT.b .nil pass0 (pa_cons (pv 0) (pa_cons pe_int pa_nil))) pa_nil))
          (blkOk_by (N := nmLR) (sc := defScope sLLotsR) (by decide +kernel)) (fun _ _ _ _ _ => pg_name (i := 6) nd rfl (.inl rfl)) (fun _ _ _ _ _ => pts_nil)
          (fun _ _ _ _ _ => pe_call GO hr2 (by rfl) aO.m aO.kp aO.b .nil pass0 (pa_cons (pv 0) (pa_cons (pv 1) pa_nil))))))
      (pss_cons (ps_if (pt_cmpR (op_neD hu64) (pe_meth (pv 2) CC.cls hCl (fn_calm GCl) hr3 bCl .nil pass0 (pa_cons (pv 5) pa_nil)) (pe_call GLo hr1 (by rfl) aLo.m aLo.kp aLo.b .nil pass0 (pa_cons (pv 1) (pa_cons (pv 5) pa_nil))) (nomark _)) pss_no pss_nil)
      (pss_cons (ps_if (pt_cmpR (op_neD hu64) (pe_meth (pv 2) CC.cls hCr (fn_calm GCr) hr bCr .nil pass0 (pa_cons (pv 3) pa_nil)) (pe_tupleOf (by rfl) Cc.tuple (pe_lc (own := [("its", 7)]) (g := gName 7) (tt := tTest (tOp (rIn K true) (tVar 7) (tVar 3))) (te := tVar 7) rfl nd (pi_tup (pv 1))
          (blkOk_by (N := nmLR) (sc := defScope sLLotsR) (by decide +kernel)) (fun _ _ _ _ _ => pg_name (i := 7) nd rfl (.inl rfl)) (fun _ _ _ _ _ => pts_one (pt_cmpR op_notIn_seq (pv 7) (pv 3) rfl)) (fun _ _ _ _ _ => pv 7))) (nomark _)) pss_no pss_nil)
      (pss_one (ps_ret (pe_cmpR (op_eqD hu64) (pe_tup (pa_cons (pe_call (fn_calm GBo) hr (by rfl) aBo.m aBo.kp aBo.b .nil pass0 (pa_cons (pv 2) (pa_cons (pv 3) (pa_cons (pv 4) pa_nil)))) (pa_cons (pe_call (fn_calm GEi) hr (by rfl) aEi.m aEi.kp aEi.b .nil pass0 (pa_cons (pv 2) (pa_cons (pv 3) (pa_cons (pv 4) pa_nil)))) pa_nil)))
          (pe_tup (pa_cons (pe_call GLb hr1 (by rfl) aLb.m aLb.kp aLb.b .nil pass0 (pa_cons (pv 3) (pa_cons (pv 4) pa_nil))) (pa_cons (pe_call GLo hr1 (by rfl) aLo.m aLo.kp aLo.b .nil pass0 (pa_cons (pv 1) (pa_cons (pe_op op_catA (pv 3) (pv 4)) pa_nil))) pa_nil))) (nomark _))))))), ?_⟩
    obtain ⟨cdx, cnm, ec, en⟩ := id hc
    have k6 := nok.k6
    have nl : (ns.map V.str).length = ns.length := List.length_map ..
    have inOk : ∀ {zs : List Str}, (∀ z ∈ zs, z ∈ ns) → ∀ z ∈ zs, PyData.strOk z = true ∧ z.length ≤ 8 := fun h z hz => nok.ok z (h z hz)
    refine ⟨_, rfl, _, rfl, a, nm, 0, N, ns, rfl, hp, by omega, nma, .inr hn, nok.nd, by omega, by decide, by omega, fun ys p1 H1 ysub _ x1 q1 np1 e1 => ?_⟩
    refine ⟨_, rfl, _, rfl, a, nm, 0, _, ns, rfl, q1, by omega, nma, .inr (Lk.SqT.keep hn (Keep.ext hp x1)), nok.nd, by omega, by decide, by omega, fun zs p2 H2 zsub _ x2 q2 np2 e2 => ?_⟩
    refine ⟨few_ok rfl, fun t nt => ⟨t, _, rfl, .inl (.inl upd_same), rfl, _, _, rfl, _, _, rfl, rfl, ?_⟩⟩
    have s3 : Same H2 (upd H2 t (.tup [.ref p1, .ref p2])) := same_new nt
    have p1a : p1 ≠ a := fun z => hp.ne (by rw [← z]; exact np1)
    have p2a : p2 ≠ a := fun z => q1.ne (by rw [← z]; exact np2)
    have e13 := s3 _ _ (x2 _ _ p1a e1)
    have e23 := s3 _ _ e2
    have q3 := q2.same s3
    have x3 : ExtP a H (upd H2 t (.tup [.ref p1, .ref p2])) := (x1.trans x2).trans (.of s3)
    generalize upd H2 t (.tup [.ref p1, .ref p2]) = H3 at e13 e23 q3 x3 ⊢
    clear s3 nt e1 e2 x2 q2 np2 x1 q1 np1
    refine ⟨_, rfl, a, 8, _, rfl, q3, by omega, by decide, by decide, fun j H4 j0 j8 x4 q4 => ⟨j, rfl, by omega, by omega, fun D nD => ?_⟩⟩
    have Da : D ≠ a := fun z => q4.ne (by rw [← z]; exact nD)
    refine lc_it (walk_range (n := j.toNat)) (fun i H' => ∃ ts : List Str, H' D = some (.lst (ts.map V.str)) ∧ ts.length = i ∧ (∀ z ∈ ts, z ∈ ns) ∧ PotAt a (N + 41 + i) H' ∧ ExtP a H4 H') ?_ (fun _ _ _ _ => trivial) ?_ ?_
    · exact ⟨[], upd_same, rfl, (fun z h => by cases h), (q4.same (same_new nD)).mono (by omega), .of (same_new nD)⟩
    · rintro i y Ha Ha' hi ⟨ts, eD, tl, sub, qa, xa⟩ hy
      obtain ⟨rfl, rfl⟩ := hy
      have hna := Lk.SqT.keep hn (Keep.ext hp ((x3.trans x4).trans xa))
      refine ⟨rfl, _, rfl, _, rfl, a, nm, _, _, rfl, qa, by omega, hna, by omega, by omega, fun i' x Hb hx xb qb => ?_⟩
      obtain ⟨z, hz, rfl⟩ : ∃ z, z ∈ ns ∧ x = V.str z := by
        obtain ⟨z, hz, e⟩ := List.mem_map.mp (List.mem_of_getElem? hx)
        exact ⟨z, hz, e.symm⟩
      refine ⟨ts.map V.str, xb _ _ Da eD, by rw [List.length_map, sizeLine_eq]; omega, ts ++ [z], by rw [upd_same, List.map_append]; rfl, by simp [tl], fun w hw => ?_, ?_, fun b o ba e => ?_⟩
      · rcases List.mem_append.mp hw with h | h
        · exact sub w h
        · rw [List.mem_singleton.mp h]
          exact hz
      · obtain ⟨o, b, c, e, r⟩ := qb.mono (show N + 41 + i + 1 ≤ N + 41 + (i + 1) by omega)
        exact ⟨o, b, c, by rw [upd_ne Da.symm]; exact e, r⟩
      · rw [upd_ne (ne_of_none e nD)]
        exact xb _ _ ba (xa _ _ ba e)
    rintro H5 ⟨ts, eD, tl, sub, q5, x5⟩
    refine .inl ⟨D, _, rfl, SqL.of eD, fun q nq => ?_⟩
    have s6 : Same H5 (upd H5 q (.tup (ts.map V.str))) := same_new nq
    have eq6 : upd H5 q (.tup (ts.map V.str)) q = some (.tup (ts.map V.str)) := upd_same
    have x36 : ExtP a H3 (upd H5 q (.tup (ts.map V.str))) := (x4.trans x5).trans (.of s6)
    have q6 := (q5.same s6).mono (show N + 41 + j.toNat ≤ N + 60 by omega)
    generalize upd H5 q (.tup (ts.map V.str)) = H6 at s6 eq6 x36 q6 ⊢
    have x6 : ExtP a H H6 := x3.trans x36
    have k06 := Keep.ext hp x6
    have hn6 := Lk.SqT.keep hn k06
    have hc6 := hc.keep k06
    have ec6 : H6 c = some (.ins C cdx [("names", .ref cnm)]) := k06 _ _ ec fun _ z => by cases z
    have e16 := x36 _ _ p1a e13
    have e26 := x36 _ _ p2a e23
    clear x36 e13 e23 x4 x5 q4 q5 eD nD s6 nq q3
    have t7 : ts.length ≤ 8 := by omega
    -- ring.lot(some)
    refine ⟨_, rfl, c, cdx, _, rfl, ec6, rfl, _, rfl, c, ns, .ref q, .tuple (strsD ts), rfl, hc6, nok, vd_strs (SqT.of eq6) (inOk sub) (by omega), fun zs' h hz r H7 s7 nr er => ?_, fun h => absurd ⟨ts, rfl, sub⟩ h⟩
    obtain rfl := strsD_inj (PyData.tuple.inj h)
    refine ⟨_, rfl, _, rfl, nm, q, ns, ts, rfl, .inr (sqT_same s7 hn6), .inr (SqT.of (s7 _ _ eq6)), by omega, fun r2 H8 s8 nr2 er2 => ?_⟩
    have shL := (nice_lot nok (List.filter_sublist (l := ns) (p := fun y => decide (y ∈ ts)))).shaped (by decide)
    refine ⟨.tuple (strsD _), .tuple (strsD _), .tup (SqT.of (s8 _ _ er)) (dp_strs _), .tup (SqT.of er2) (dp_strs _), shL, shL, _, rfl, iteB (by rw [SeqAt.eqv_refl _ (SeqAt.canLay_of_shaped shL)]; rfl) ?_⟩
    have s68 := s7.trans s8
    have hn8 := sqT_same s68 hn6
    have hc8 := hc6.same s68
    have ec8 := s68 _ _ ec6
    have e18 := s68 _ _ e16
    have e28 := s68 _ _ e26
    clear er er2 nr nr2 s7 s8
    -- ring.rest(one)
    have y6 : ys.length ≤ 6 := Nat.le_trans ysub.length_le k6
    have z6 : zs.length ≤ 6 := Nat.le_trans zsub.length_le k6
    have vy : ∀ {H' : Hp}, Same H8 H' → VD K H' (.ref p1) (.tuple (strsD ys)) := fun s => vd_strs (SqT.of (s _ _ e18)) (inOk fun z hz => ysub.subset hz) (by omega)
    have vz : ∀ {H' : Hp}, Same H8 H' → VD K H' (.ref p2) (.tuple (strsD zs)) := fun s => vd_strs (SqT.of (s _ _ e28)) (inOk fun z hz => zsub.subset hz) (by omega)
    refine ⟨_, rfl, c, cdx, _, rfl, ec8, rfl, _, rfl, c, ns, .ref p1, .tuple (strsD ys), rfl, hc8, nok, vy (Same.refl _), fun ys' h _ r H9 s9 nr er => ?_, fun h => absurd ⟨ys, rfl, ysub⟩ h⟩
    obtain rfl := strsD_inj (PyData.tuple.inj h)
    have hn9 := sqT_same s9 hn8
    refine ⟨_, rfl, nm, rfl, ⟨_, hn9⟩, fun D2 nD2 => lc_fm (walk_tup (a := nm) (xs := ns.map V.str)) ns (fun z => if z ∈ ys then none else some (V.str z)) nl.symm (by omega) nD2 (fun H s => sqT_same s hn9) ?_ ?_⟩
    · rintro i u z Ha Ha' R Rn hz sa ⟨rfl, hu⟩ k1 k2
      obtain rfl : V.str z = u := by
        rw [List.getElem?_map, hz] at hu
        exact Option.some.inj hu
      refine ⟨rfl, _, rfl, _, rfl, p1, _, rfl, .inr (SqT.of (sa _ _ (s9 _ _ e18))), rfl, flat_strs _, _, rfl, ?_⟩
      rw [inV_str]
      by_cases h : z ∈ ys
      · exact iteB (by simp [h]) (k2 _ (by simp [h]) (Same.refl _))
      · exact iteA (by simp [h]) ⟨_, rfl, k1 _ _ (by simp [h]) (Same.refl _)⟩
    intro Ha sa eD2
    rw [fm_ifn] at eD2
    refine .inl ⟨D2, _, rfl, SqL.of eD2, fun r3 nr3 => ?_⟩
    have sb : Same Ha (upd Ha r3 (.tup ((ns.filter fun x => !decide (x ∈ ys)).map V.str))) := same_new nr3
    have er3 : upd Ha r3 (.tup ((ns.filter fun x => !decide (x ∈ ys)).map V.str)) r3 = some (.tup ((ns.filter fun x => !decide (x ∈ ys)).map V.str)) := upd_same
    generalize upd Ha r3 (.tup ((ns.filter fun x => !decide (x ∈ ys)).map V.str)) = Hb at sb er3 ⊢
    have shR := (nice_lot nok (List.filter_sublist (l := ns) (p := fun y => !decide (y ∈ ys)))).shaped (by decide)
    refine ⟨.tuple (strsD _), .tuple (strsD _), .tup (SqT.of (sb _ _ (sa _ _ er))) (dp_strs _), .tup (SqT.of er3) (dp_strs _), shR, shR, _, rfl, iteB (by rw [SeqAt.eqv_refl _ (SeqAt.canLay_of_shaped shR)]; rfl) ?_⟩
    have s8b := (s9.trans sa).trans sb
    clear er er3 sb nr3 eD2 sa nD2 nr hn9 s9
    -- both, either
    refine ⟨_, rfl, _, rfl, _, rfl, c, ns, .ref p1, .ref p2, _, _, rfl, hc8.same s8b, nok, vy s8b, vz s8b, fun ys' zs' h1 h2 _ _ r1 Hc sc nr1 er1 => ?_, (fun h => absurd ⟨ys, rfl, ysub⟩ h), fun _ h => absurd ⟨zs, rfl, zsub⟩ h⟩
    obtain rfl := strsD_inj (PyData.tuple.inj h1)
    obtain rfl := strsD_inj (PyData.tuple.inj h2)
    have s8c := s8b.trans sc
    refine ⟨_, rfl, _, rfl, _, rfl, c, ns, .ref p1, .ref p2, _, _, rfl, hc8.same s8c, nok, vy s8c, vz s8c, fun ys' zs' h1 h2 _ _ r2 Hd sd nr2 er2 => ?_, (fun h => absurd ⟨ys, rfl, ysub⟩ h), fun _ h => absurd ⟨zs, rfl, zsub⟩ h⟩
    obtain rfl := strsD_inj (PyData.tuple.inj h1)
    obtain rfl := strsD_inj (PyData.tuple.inj h2)
    refine ⟨few_ok rfl, fun t1 nt1 => ?_⟩
    have se : Same Hd (upd Hd t1 (.tup [.ref r1, .ref r2])) := same_new nt1
    have et1 : upd Hd t1 (.tup [.ref r1, .ref r2]) t1 = some (.tup [.ref r1, .ref r2]) := upd_same
    have er1e := se _ _ (sd _ _ er1)
    have er2e := se _ _ er2
    have s8e := (s8c.trans sd).trans se
    generalize upd Hd t1 (.tup [.ref r1, .ref r2]) = He at se et1 er1e er2e s8e ⊢
    clear se nt1 er1 er2 nr1 nr2 sd sc s8b s8c
    refine ⟨_, rfl, _, rfl, p1, p2, ys, zs, rfl, SqT.of (s8e _ _ e18), SqT.of (s8e _ _ e28), by omega, fun r3 Hf sf nr3 er3 => ?_⟩
    have s8f := s8e.trans sf
    have hnf := sqT_same s8f hn8
    have e1f := s8f _ _ e18
    have e2f := s8f _ _ e28
    have sxf := s68.trans s8f
    have xf : ExtP a H6 Hf := .of sxf
    have nA := nice_strs (n := 8) (m := 6) (zs := ys.filter fun y => decide (y ∈ zs)) (fun z hz => inOk (fun z hz => ysub.subset hz) z (List.filter_sublist.subset hz)) (Nat.le_trans (List.length_filter_le _ _) y6)
    have nB := nice_lot nok (List.filter_sublist (l := ns) (p := fun y => decide (y ∈ ys ++ zs)))
    have two : ∀ d ∈ [PyData.tuple (strsD (ys.filter fun y => decide (y ∈ zs))), PyData.tuple (strsD (ns.filter fun y => decide (y ∈ ys ++ zs)))], Nice (6 * (8 + 1)) 1 d := fun d hd => by
      simp only [List.mem_cons, List.not_mem_nil, or_false] at hd
      rcases hd with rfl | rfl
      · exact nA
      · exact nB
    have nT := (Nice.tup two (m := 2) (by simp)).shaped (by decide)
    have FIN : ∀ (r4 : Addr) (Hh : Hp), Same Hf Hh → Hh r4 = some (.tup ((ns.filter fun y => decide (y ∈ ys ++ zs)).map V.str)) → ∀ (t2 : Addr), Hh t2 = none → ∃ d e, Dp K (upd Hh t2 (.tup [.ref r3, .ref r4])) (.ref t1) d ∧ Dp K (upd Hh t2 (.tup [.ref r3, .ref r4])) (.ref t2) e ∧
        SeqAt.shaped d = true ∧ SeqAt.shaped e = true ∧ Q (.bl (PyData.eqv d e)) (upd Hh t2 (.tup [.ref r3, .ref r4])) := fun r4 Hh sh er4 t2 nt2 => by
      have si : Same Hh (upd Hh t2 (.tup [.ref r3, .ref r4])) := same_new nt2
      have sfi := sh.trans si
      have dA1 : Dp K (upd Hh t2 (.tup [.ref r3, .ref r4])) (.ref r1) (.tuple (strsD (ys.filter fun y => decide (y ∈ zs)))) := .tup (SqT.of (sfi _ _ (sf _ _ er1e))) (dp_strs _)
      have dB1 : Dp K (upd Hh t2 (.tup [.ref r3, .ref r4])) (.ref r2) (.tuple (strsD (ns.filter fun y => decide (y ∈ ys ++ zs)))) := .tup (SqT.of (sfi _ _ (sf _ _ er2e))) (dp_strs _)
      have dA2 : Dp K (upd Hh t2 (.tup [.ref r3, .ref r4])) (.ref r3) (.tuple (strsD (ys.filter fun y => decide (y ∈ zs)))) := .tup (SqT.of (sfi _ _ er3)) (dp_strs _)
      have dB2 : Dp K (upd Hh t2 (.tup [.ref r3, .ref r4])) (.ref r4) (.tuple (strsD (ns.filter fun y => decide (y ∈ ys ++ zs)))) := .tup (SqT.of (si _ _ er4)) (dp_strs _)
      refine ⟨_, _, .tup (SqT.of (sfi _ _ (sf _ _ et1))) (.cons dA1 (.cons dB1 .nil)), .tup (SqT.of upd_same) (.cons dA2 (.cons dB2 .nil)), nT, nT, ?_⟩
      rw [SeqAt.eqv_refl _ (SeqAt.canLay_of_shaped nT)]
      exact k _ (x6.trans (xf.trans (.of sfi))) ((q6.same sxf).same sfi)
    refine ⟨_, rfl, _, rfl, _, rfl, p1, p2, _, _, rfl, rfl, SqT.of e1f, SqT.of e2f, by rw [List.length_map, List.length_map, sizeLine_eq]; omega, fun e => ?_, fun _ e => ?_, fun _ _ p np => ?_⟩
    · have : ys = [] := List.map_eq_nil_iff.mp e
      subst this
      exact ⟨nm, p2, ns, [] ++ zs, rfl, .inr hnf, .inr (SqT.of e2f), by omega, fun r4 Hh sh nr4 er4 => ⟨few_ok rfl, fun t2 nt2 => FIN r4 Hh sh er4 t2 nt2⟩⟩
    · have : zs = [] := List.map_eq_nil_iff.mp e
      subst this
      refine ⟨nm, p1, ns, ys ++ [], rfl, .inr hnf, .inr (by rw [List.append_nil]; exact SqT.of e1f), by omega, fun r4 Hh sh nr4 er4 => ⟨few_ok rfl, fun t2 nt2 => FIN r4 Hh sh er4 t2 nt2⟩⟩
    · have sg := same_new (o := HO.tup (ys.map V.str ++ zs.map V.str)) np
      refine ⟨nm, p, ns, ys ++ zs, rfl, .inr (sqT_same sg hnf), .inr (by rw [List.map_append]; exact SqT.of upd_same), by omega, fun r4 Hh sh nr4 er4 => ⟨few_ok rfl, fun t2 nt2 => FIN r4 Hh (sg.trans sh) er4 t2 nt2⟩⟩
end
end K6
set_option Elab.async false
set_option linter.all false
set_option maxRecDepth 100000
set_option maxHeartbeats 1500000
set_option pp.maxSteps 1200
set_option pp.deepTerms false
namespace K6
open PySem PySem.Spec PyProof.Rows L2 Lk
abbrev sLLotDue : Stmt := top 35
theorem tabs_but {T : List (Addr × Str)} {H H' : Hp} {L : Addr} {xs : List V} (t : LamX.Tabs T H) (e : H L = some (.lst xs)) (x : ∀ b o, b ≠ L → H b = some o → H' b = some o) : LamX.Tabs T H' := fun p hq => by
  obtain ⟨ps, h1, h2, h3⟩ := t p hq
  refine ⟨ps, x _ _ (fun z => by rw [z, e] at h1; cases h1) h1, h2, fun pos cv hc => ?_⟩
  obtain ⟨c', e1, e2⟩ := h3 pos cv hc
  refine ⟨c', e1, x _ _ (fun z => ?_) e2⟩
  rw [z, e] at e2
  unfold LamX.CodeO at e2
  cases e2
theorem c_but {H : Hp} {C a d L : Addr} {v : V} {xs : List V} {o : HO} (h : CauAt H C a d v) (e : H L = some (.lst xs)) : CauAt (upd H L o) C a d v := by
  refine ⟨?_, ?_⟩
  · rw [upd_ne (fun z => by have := h.1; rw [z, e] at this; cases (show HO.lst _ = HO.ext _ from Option.some.inj this))]
    exact h.1
  · rw [upd_ne (fun z => by have := h.2; rw [z, e] at this; cases this)]
    exact h.2
theorem vd_empty {K : PySem.W.Frag} {H : Hp} {e0 : Addr} (h : H e0 = some (.tup [])) : VD K H (.ref e0) (.tuple (strsD [])) := vd_strs (zs := []) (SqT.of h) (fun z h => by cases h) (by decide)
theorem eqv_nons : PyData.eqv (.list [.none, .none, .none]) (.list [.none, .none, .none]) = true := by decide +kernel
theorem kit_self {K : PySem.W.Frag} {C : Addr} : PySem.W.kitOne K (.ref C) (.ref C) = some true := by unfold PySem.W.kitOne; rw [if_pos (by simp)]
section
variable {P : Program} {w : World} {K : PySem.W.Frag} {mg : Str → Option Value} {base : Heap} {f : Addr} {fd : FuncData}
/-! ### _law_is_lot_due -/
def spLLotDue (K : PySem.W.Frag) (C : Addr) (T : List (Addr × Str)) : Sp := fun vs H Q _ => ∃ (nm c : Addr) (ns : List Str) (v : V) (d : PyData), vs = [.ref nm, .ref c, v] ∧ SqT K H nm (ns.map V.str) ∧ NmOk ns ∧ CircAt K H C c ns ∧ VD K H v d ∧ LamX.Tabs T H ∧ ∀ H', LamX.ExtN H H' → LamX.Tabs T H' → Q (.bl true) H'
abbrev nmLD : List Str := ["names", "ring", "value", "heard", "caught"]
theorem scLLotDue : FnScope nmLD ["names", "ring", "value"] (defScope sLLotDue) := ⟨rfl, rfl, rfl, by decide +kernel, rfl, by decide +kernel, by decide +kernel⟩
theorem ok_lLotDue {T : List (Addr × Str)} {C CN CL c Tb fC fH fCr fBo fEi fIl fI : Addr} {dH dCr dBo dEi dIl : FuncData} (F : Fun K "_law_is_lot_due" "_law_is_lot_due" sLLotDue f fd) (Tl : Bl mg) (Cc : Cn mg)
    (hc : fd.code = .ref c) (TB : LamX.TabB base mg c Tb) (LT : LamT T Tb "_law_is_lot_due") (CC : CircC K C fC) (ec : ErC K CN fI) (ek : ErK K fI) (mU : mg "BadLot" = some (.ref CN)) (mL : mg "LotError" = some (.ref CL)) (em : PySem.W.exmOne K (.ref CN) (.ref CL) = some true)
    (FH : Fun K "_law_heard" "_law_heard" sHeard fH dH) (aH : At K mg "_law_heard" fH dH ["call"])
    (GCr : FnOk P w K mg base (L2.CX P w) 4 fCr dCr ["self", "lot"] (spCRest K C CN)) (hCr : Meth K C "rest" fCr) (bCr : Binds K dCr ["self", "lot"] [])
    (GBo : FnOk P w K mg base (L2.CX P w) 4 fBo dBo ["circle", "one", "other"] (spBoth K C CN)) (aBo : At K mg "both" fBo dBo ["circle", "one", "other"])
    (GEi : FnOk P w K mg base (L2.CX P w) 4 fEi dEi ["circle", "one", "other"] (spEither K C CN)) (aEi : At K mg "either" fEi dEi ["circle", "one", "other"])
    (GIl : FnOk P w K mg base CX0 2 fIl dIl ["names", "value"] (spLIsLotV K)) (aIl : At K mg "_law_is_lot" fIl dIl ["names", "value"]) :
    FnG P w K mg base 8 f fd ["names", "ring", "value"] (spLLotDue K C T) := by
  refine fnG_ofC F scLLotDue (fun vs H Q h => ?_) (fun A outer s H vs Q hr hG h => ?_)
  · obtain ⟨nm, c, ns, v, d, rfl, _⟩ := h
    rfl
  · obtain ⟨nm, ca, ns, v, d, rfl, hn, nok, hci, hv, tbs, k⟩ := h
    have nd := scLLotDue.nd
    have hu64 := room64 hr
    have hr2 : Room 2 _ := hr.mono (by decide)
    have hr6 : Room 6 _ := hr.mono (by decide)
    obtain ⟨oc, od, kV, doc, pm, an, cdv, ct, osl, rfl, lookH, codeH⟩ := FH.ex
    refine ⟨_, pss_cons (ps_set (i := 3) nd rfl (.inl rfl) (pe_lst (pa_cons (pe_ix ix_tup (pe_hear (TT := ttHeard K CL) (T := T) (t := fun E => tMeth C "rest" (spCRest K C CN) [] E (tVar 1) (tCons (tVar 2) tNil)) (k := 4) (by rfl) aH.m aH.kp lookH codeH aH.b scHeard rfl (.inl rfl) (heard_gives mL) TB hc (LT.at (by rfl))
              (LT.only (by rfl)) hr6 (LamX.lamS_by (sc := defScope sLLotDue) (by decide +kernel)) rfl (fun _ _ _ _ _ => rfl)
              (fun A o s H E f cl hr' => pe_meth (pv 1) CC.cls hCr GCr hr' bCr .nil (passes_call (W := fun cls d _ H => E cls d H) (takes_of rfl rfl rfl rfl) (fun _ _ _ _ h => h)) (pa_cons (pv 2) pa_nil))) pe_int (fun _ _ => rfl)) pa_nil)))
      (pss_cons (ps_expr (pe_bm PySem.F.plainAttrs_list PySem.F.slot_list_append PySem.F.type_list_append mt_append (pv 3) (pa_cons (pe_ix ix_tup (pe_hear (TT := ttHeard K CL) (T := T) (t := fun E => tCall (spBoth K C CN) [] E (tCons (tVar 1) (tCons (tVar 2) (tCons (tTup tNil) tNil)))) (k := 4) (by rfl) aH.m aH.kp lookH codeH aH.b scHeard rfl (.inl rfl) (heard_gives mL) TB hc (LT.at (by rfl))
              (LT.only (by rfl)) hr6 (LamX.lamS_by (sc := defScope sLLotDue) (by decide +kernel)) rfl (fun _ _ _ _ _ => rfl)
              (fun A o s H E f cl hr' => pe_call GBo hr' (by rfl) aBo.m aBo.kp aBo.b .nil (passes_call (W := fun cls d _ H => E cls d H) (takes_of rfl rfl rfl rfl) (fun _ _ _ _ h => h)) (pa_cons (pv 1) (pa_cons (pv 2) (pa_cons (pe_tup pa_nil) pa_nil))))) pe_int (fun _ _ => rfl)) pa_nil)))
      (pss_cons (ps_expr (pe_bm PySem.F.plainAttrs_list PySem.F.slot_list_append PySem.F.type_list_append mt_append (pv 3) (pa_cons (pe_ix ix_tup (pe_hear (TT := ttHeard K CL) (T := T) (t := fun E => tCall (spEither K C CN) [] E (tCons (tVar 1) (tCons (tTup tNil) (tCons (tVar 2) tNil)))) (k := 4) (by rfl) aH.m aH.kp lookH codeH aH.b scHeard rfl (.inl rfl) (heard_gives mL) TB hc (LT.at (by rfl))
              (LT.only (by rfl)) hr6 (LamX.lamS_by (sc := defScope sLLotDue) (by decide +kernel)) rfl (fun _ _ _ _ _ => rfl)
              (fun A o s H E f cl hr' => pe_call GEi hr' (by rfl) aEi.m aEi.kp aEi.b .nil (passes_call (W := fun cls d _ H => E cls d H) (takes_of rfl rfl rfl rfl) (fun _ _ _ _ h => h)) (pa_cons (pv 1) (pa_cons (pe_tup pa_nil) (pa_cons (pv 2) pa_nil))))) pe_int (fun _ _ => rfl)) pa_nil)))
      (pss_cons (ps_if (pt_val (pe_call GIl hr2 (by rfl) aIl.m aIl.kp aIl.b .nil pass0 (pa_cons (pv 0) (pa_cons (pv 2) pa_nil)))) (pss_one (ps_ret (pe_cmpR (op_eqD hu64) (pv 3) (pe_lst (pa_cons pe_non (pa_cons pe_non (pa_cons pe_non pa_nil)))) (nomark _)))) pss_nil)
      (pss_one (ps_ret (pe_callB (cr_all rfl) (by rfl) Tl.all boot_all (pa_cons (pe_lc (own := [("caught", 4)]) (g := gName 4) (tt := tYes) (te := tAndV (tCB (rCauIs K) (tCons (tVar 4) (tCons (tC (.ref CN)) tNil))) (tOp rEq (tCB (rReprV K) (tCons (tCauV K (tVar 4)) tNil)) (tCB (rReprV K) (tCons (tVar 2) tNil)))) rfl nd (pi_list (pv 3))
          (blkOk_by (N := nmLD) (sc := defScope sLLotDue) (by decide +kernel)) (fun _ _ _ _ _ => pg_name (i := 4) nd rfl (.inl rfl)) (fun _ _ _ _ _ => pts_nil)
          (fun _ _ _ _ _ => pe_and (pe_callB call_cauIs (by rfl) Tl.isin boot_isinstance (pa_cons (pv 4) (pa_cons (pe_glob (v := .ref CN) (by rfl) mU rfl) pa_nil))) (pe_one (pe_cmpR op_eq (pe_callB (call_reprV hG hu64) (by rfl) Tl.repr boot_repr (pa_cons (pe_cauV (pv 4)) pa_nil)) (pe_callB (call_reprV hG hu64) (by rfl) Tl.repr boot_repr (pa_cons (pv 2) pa_nil)) (nomark _))))) pa_nil))))))), ?_⟩
    by_cases lot : LotD ns d
    · refine ⟨tbs, fun H1 gr1 tb1 H2 s2 R hR => ?_⟩
      have x2 : LamX.ExtN H H2 := gr1.trans (.of s2)
      have hc2 := hci.keep (Keep.extN x2)
      have hv2 := hv.extN x2
      obtain ⟨cdx, cnm, ec2, _⟩ := id hc2
      refine ⟨_, rfl, ca, cdx, _, rfl, ec2, rfl, _, rfl, ca, ns, v, d, rfl, hc2, nok, hv2, fun ys' hd _ r H3 s3 nr er => hR _ _ fun t nt => ?_, fun h => absurd lot h⟩
      refine ⟨t, _, _, _, rfl, rfl, SqT.of upd_same, rfl, few_ok rfl, fun L nL => ?_⟩
      have s4 : Same H2 (upd H3 t (.tup [.non, .ref r])) := s3.trans (same_new nt)
      have fr : ∀ b o, H b = some o → (∀ ps, o ≠ .tbl ps) → b ≠ L := fun b o e z q => by
        have := s4 _ _ (x2 b o e z)
        rw [q, nL] at this
        cases this
      have s5 := s4.trans (same_new (o := HO.lst [.non]) nL)
      have eL := upd_same (H := upd H3 t (.tup [.non, .ref r])) (a := L) (o := HO.lst [.non])
      have x4 : LamX.ExtN H _ := x2.trans (.of s5)
      have tb4 : LamX.Tabs T _ := tb1.ext fun b o q => s5 _ _ (s2 _ _ q)
      generalize upd (upd H3 t (.tup [.non, .ref r])) L (.lst [.non]) = H4 at eL x4 tb4 ⊢
      clear s5 s4 nL nt er nr s3 hR gr1 tb1 s2 x2 hc2 hv2 ec2
      refine ⟨_, rfl, .inl ⟨rfl, _, SqL.of eL⟩, tb4, fun H5 gr5 tb5 H6 s6 R hR => ?_⟩
      have x46 : LamX.ExtN H4 H6 := gr5.trans (.of s6)
      have x6 := x4.trans x46
      have hc6 := hci.keep (Keep.extN x6)
      have hv6 := hv.extN x6
      refine ⟨_, rfl, _, rfl, few_ok rfl, fun e0 ne0 => ?_⟩
      have se : Same H6 (upd H6 e0 (.tup [])) := same_new ne0
      refine ⟨ca, ns, v, .ref e0, d, .tuple (strsD []), rfl, hc6.same se, nok, hv6.same se, vd_empty upd_same, fun _ _ _ _ _ _ r H7 s7 nr er => hR _ _ fun t nt => ?_, fun h => absurd lot h, fun _ h => absurd ⟨[], rfl, List.nil_sublist _⟩ h⟩
      have s8 : Same H6 (upd H7 t (.tup [.non, .ref r])) := (se.trans s7).trans (same_new nt)
      have eL8 := s8 _ _ (x46 _ _ eL fun _ z => by cases z)
      refine ⟨t, _, _, _, rfl, rfl, SqT.of upd_same, rfl, L, _, _, rfl, rfl, eL8, by rw [sizeLine_eq]; decide, ?_⟩
      have eL9 := upd_same (H := upd H7 t (.tup [.non, .ref r])) (a := L) (o := HO.lst ([.non] ++ [.non]))
      have x9 : LamX.ExtN H (upd (upd H7 t (.tup [.non, .ref r])) L (.lst ([.non] ++ [.non]))) := fun b o e z => by
        rw [upd_ne (fr b o e z)]
        exact s8 _ _ (x6 b o e z)
      have tb9 : LamX.Tabs T (upd (upd H7 t (.tup [.non, .ref r])) L (.lst ([.non] ++ [.non]))) := tabs_but (tb5.ext fun b o q => s8 _ _ (s6 _ _ q)) eL8 fun b o nb e => by rw [upd_ne nb]; exact e
      generalize upd (upd H7 t (.tup [.non, .ref r])) L (.lst ([.non] ++ [.non])) = H9 at eL9 x9 tb9 ⊢
      clear eL8 s8 nt er nr s7 se ne0 hv6 hc6 x6 x46 hR s6 tb5 gr5 eL x4 tb4
      have eL : H9 L = some (.lst [.non, .non]) := eL9
      have x4 := x9
      have tb4 := tb9
      clear eL9 x9 tb9
      clear H4
      rename Hp => H4
      refine ⟨_, rfl, .inl ⟨rfl, _, SqL.of eL⟩, tb4, fun H5 gr5 tb5 H6 s6 R hR => ?_⟩
      have x46 : LamX.ExtN H4 H6 := gr5.trans (.of s6)
      have x6 := x4.trans x46
      have hc6 := hci.keep (Keep.extN x6)
      have hv6 := hv.extN x6
      refine ⟨_, rfl, few_ok rfl, fun e0 ne0 => ⟨_, rfl, ?_⟩⟩
      have se : Same H6 (upd H6 e0 (.tup [])) := same_new ne0
      refine ⟨ca, ns, .ref e0, v, .tuple (strsD []), d, rfl, hc6.same se, nok, vd_empty upd_same, hv6.same se, fun _ _ _ _ _ _ r H7 s7 nr er => hR _ _ fun t nt => ?_, fun h => absurd ⟨[], rfl, List.nil_sublist _⟩ h, fun _ h => absurd lot h⟩
      have s8 : Same H6 (upd H7 t (.tup [.non, .ref r])) := (se.trans s7).trans (same_new nt)
      have eL8 := s8 _ _ (x46 _ _ eL fun _ z => by cases z)
      refine ⟨t, _, _, _, rfl, rfl, SqT.of upd_same, rfl, L, _, _, rfl, rfl, eL8, by rw [sizeLine_eq]; decide, ?_⟩
      have eL9 := upd_same (H := upd H7 t (.tup [.non, .ref r])) (a := L) (o := HO.lst ([.non, .non] ++ [.non]))
      have x9 : LamX.ExtN H (upd (upd H7 t (.tup [.non, .ref r])) L (.lst ([.non, .non] ++ [.non]))) := fun b o e z => by
        rw [upd_ne (fr b o e z)]
        exact s8 _ _ (x6 b o e z)
      have tb9 : LamX.Tabs T (upd (upd H7 t (.tup [.non, .ref r])) L (.lst ([.non, .non] ++ [.non]))) := tabs_but (tb5.ext fun b o q => s8 _ _ (s6 _ _ q)) eL8 fun b o nb e => by rw [upd_ne nb]; exact e
      generalize upd (upd H7 t (.tup [.non, .ref r])) L (.lst ([.non, .non] ++ [.non])) = H9 at eL9 x9 tb9 ⊢
      clear eL8 s8 nt er nr s7 se ne0 hv6 hc6 x6 x46 hR s6 tb5 gr5 eL x4 tb4
      have eL : H9 L = some (.lst [.non, .non, .non]) := eL9
      have x4 := x9
      have tb4 := tb9
      clear eL9 x9 tb9
      clear H4
      rename Hp => H4
      refine ⟨_, rfl, _, rfl, nm, ns, v, d, rfl, sqT_extN x4 hn, nok, hv.extN x4, fun b Ha sa hb => ⟨_, rfl, ?_⟩⟩
      have hb : b = true := hb.mpr lot
      subst hb
      refine iteA rfl ⟨_, rfl, few_ok rfl, fun l nl => ?_⟩
      have s5 : Same H4 (upd Ha l (.lst [.non, .non, .non])) := sa.trans (same_new nl)
      refine ⟨.list [.none, .none, .none], .list [.none, .none, .none], .lst (SqL.of (s5 _ _ eL)) (.cons .non (.cons .non (.cons .non .nil))), .lst (SqL.of upd_same) (.cons .non (.cons .non (.cons .non .nil))), by decide, by decide, ?_⟩
      rw [eqv_nons]
      exact k _ (x4.trans (.of s5)) (tb4.ext fun b o q => s5 _ _ q)
    · refine ⟨tbs, fun H1 gr1 tb1 H2 s2 R hR => ?_⟩
      have x2 : LamX.ExtN H H2 := gr1.trans (.of s2)
      have hc2 := hci.keep (Keep.extN x2)
      have hv2 := hv.extN x2
      obtain ⟨cdx, cnm, ec2, _⟩ := id hc2
      refine ⟨_, rfl, ca, cdx, _, rfl, ec2, rfl, _, rfl, ca, ns, v, d, rfl, hc2, nok, hv2, fun ys' hd sub => absurd ⟨ys', hd, sub⟩ lot, fun _ y1 H3 s3 ny ey => ⟨em, fun a1 t na nta nt => ?_⟩⟩
      refine ⟨t, _, _, _, rfl, rfl, SqT.of upd_same, rfl, few_ok rfl, fun L nL => ?_⟩
      have s34 : Same H3 (upd (upd H3 a1 (exq a1 (.ref CN) (some y1))) t (.tup [.ref a1, .non])) := fun b o q => by
        rw [upd_ne (ne_of_none q nt), upd_ne (ne_of_none q na)]
        exact q
      have c1 : CauAt (upd (upd H3 a1 (exq a1 (.ref CN) (some y1))) t (.tup [.ref a1, .non])) CN a1 y1 v := ⟨by rw [upd_ne nta.symm, upd_same], s34 _ _ ey⟩
      have s4 := s3.trans s34
      have fr : ∀ b o, H b = some o → (∀ ps, o ≠ .tbl ps) → b ≠ L := fun b o e z q => by
        have := s4 _ _ (x2 b o e z)
        rw [q, nL] at this
        cases this
      have s45 := same_new (o := HO.lst [.ref a1]) nL
      have s5 := s4.trans s45
      have eL := upd_same (H := upd (upd H3 a1 (exq a1 (.ref CN) (some y1))) t (.tup [.ref a1, .non])) (a := L) (o := HO.lst [.ref a1])
      have x4 : LamX.ExtN H _ := x2.trans (.of s5)
      have tb4 : LamX.Tabs T _ := tb1.ext fun b o q => s5 _ _ (s2 _ _ q)
      have c1 := c1.same s45
      generalize upd (upd (upd H3 a1 (exq a1 (.ref CN) (some y1))) t (.tup [.ref a1, .non])) L (.lst [.ref a1]) = H4 at eL x4 tb4 c1 ⊢
      clear s5 s4 s45 s34 nL nt na nta ey ny s3 hR gr1 tb1 s2 x2 hc2 hv2 ec2
      refine ⟨_, rfl, .inl ⟨rfl, _, SqL.of eL⟩, tb4, fun H5 gr5 tb5 H6 s6 R hR => ?_⟩
      have x46 : LamX.ExtN H4 H6 := gr5.trans (.of s6)
      have x6 := x4.trans x46
      have hc6 := hci.keep (Keep.extN x6)
      have hv6 := hv.extN x6
      refine ⟨_, rfl, _, rfl, few_ok rfl, fun e0 ne0 => ?_⟩
      have se : Same H6 (upd H6 e0 (.tup [])) := same_new ne0
      refine ⟨ca, ns, v, .ref e0, d, .tuple (strsD []), rfl, hc6.same se, nok, hv6.same se, vd_empty upd_same, fun ys' _ h _ sub _ => absurd ⟨ys', h, sub⟩ lot, fun _ y2 H7 s7 ny ey => ⟨em, fun a2 t na nta nt => ?_⟩, fun h => absurd h lot⟩
      have s78 : Same H7 (upd (upd H7 a2 (exq a2 (.ref CN) (some y2))) t (.tup [.ref a2, .non])) := fun b o q => by
        rw [upd_ne (ne_of_none q nt), upd_ne (ne_of_none q na)]
        exact q
      have c2 : CauAt (upd (upd H7 a2 (exq a2 (.ref CN) (some y2))) t (.tup [.ref a2, .non])) CN a2 y2 v := ⟨by rw [upd_ne nta.symm, upd_same], s78 _ _ ey⟩
      have eT : upd (upd H7 a2 (exq a2 (.ref CN) (some y2))) t (.tup [.ref a2, .non]) t = some (.tup [.ref a2, .non]) := upd_same
      generalize upd (upd H7 a2 (exq a2 (.ref CN) (some y2))) t (.tup [.ref a2, .non]) = HQ at s78 c2 eT ⊢
      have s8 : Same H6 HQ := (se.trans s7).trans s78
      have eL8 := s8 _ _ (x46 _ _ eL fun _ z => by cases z)
      refine ⟨t, _, _, _, rfl, rfl, SqT.of eT, rfl, L, _, _, rfl, rfl, eL8, by rw [sizeLine_eq]; simp, ?_⟩
      have eL9 := upd_same (H := HQ) (a := L) (o := HO.lst ([.ref a1] ++ [.ref a2]))
      have x9 : LamX.ExtN H (upd HQ L (.lst ([.ref a1] ++ [.ref a2]))) := fun b o e z => by
        rw [upd_ne (fr b o e z)]
        exact s8 _ _ (x6 b o e z)
      have tb9 : LamX.Tabs T (upd HQ L (.lst ([.ref a1] ++ [.ref a2]))) := tabs_but (tb5.ext fun b o q => s8 _ _ (s6 _ _ q)) eL8 fun b o nb e => by rw [upd_ne nb]; exact e
      have c2' : CauAt (upd HQ L (.lst ([.ref a1] ++ [.ref a2]))) CN a2 y2 v := c_but c2 eL8
      have c1' : CauAt (upd HQ L (.lst ([.ref a1] ++ [.ref a2]))) CN a1 y1 v := c_but ((c1.keeps x46).same s8) eL8
      clear c1 c2
      generalize upd HQ L (.lst ([.ref a1] ++ [.ref a2])) = H9 at eL9 x9 tb9 c1' c2' ⊢
      clear eL8 s8 s78 eT nt na nta ny ey s7 se ne0 hv6 hc6 x6 x46 hR s6 tb5 gr5 eL x4 tb4
      have eL : H9 L = some (.lst [.ref a1, .ref a2]) := eL9
      have x4 := x9
      have tb4 := tb9
      clear eL9 x9 tb9
      clear H4
      have c1 := c1'
      have c2 := c2'
      clear c1' c2' 
      have hH : ∃ H, H = H9 := ⟨_, rfl⟩
      obtain ⟨H4, rfl⟩ := hH
      refine ⟨_, rfl, .inl ⟨rfl, _, SqL.of eL⟩, tb4, fun H5 gr5 tb5 H6 s6 R hR => ?_⟩
      have x46 : LamX.ExtN H4 H6 := gr5.trans (.of s6)
      have x6 := x4.trans x46
      have hc6 := hci.keep (Keep.extN x6)
      have hv6 := hv.extN x6
      refine ⟨_, rfl, few_ok rfl, fun e0 ne0 => ⟨_, rfl, ?_⟩⟩
      have se : Same H6 (upd H6 e0 (.tup [])) := same_new ne0
      refine ⟨ca, ns, .ref e0, v, .tuple (strsD []), d, rfl, hc6.same se, nok, vd_empty upd_same, hv6.same se, fun _ zs' _ h _ sub => absurd ⟨zs', h, sub⟩ lot, fun h => absurd ⟨[], rfl, List.nil_sublist _⟩ h, fun _ _ y3 H7 s7 ny ey => ⟨em, fun a3 t na nta nt => ?_⟩⟩
      have s78 : Same H7 (upd (upd H7 a3 (exq a3 (.ref CN) (some y3))) t (.tup [.ref a3, .non])) := fun b o q => by
        rw [upd_ne (ne_of_none q nt), upd_ne (ne_of_none q na)]
        exact q
      have c3 : CauAt (upd (upd H7 a3 (exq a3 (.ref CN) (some y3))) t (.tup [.ref a3, .non])) CN a3 y3 v := ⟨by rw [upd_ne nta.symm, upd_same], s78 _ _ ey⟩
      have eT : upd (upd H7 a3 (exq a3 (.ref CN) (some y3))) t (.tup [.ref a3, .non]) t = some (.tup [.ref a3, .non]) := upd_same
      generalize upd (upd H7 a3 (exq a3 (.ref CN) (some y3))) t (.tup [.ref a3, .non]) = HQ at s78 c3 eT ⊢
      have s8 : Same H6 HQ := (se.trans s7).trans s78
      have eL8 := s8 _ _ (x46 _ _ eL fun _ z => by cases z)
      refine ⟨t, _, _, _, rfl, rfl, SqT.of eT, rfl, L, _, _, rfl, rfl, eL8, by rw [sizeLine_eq]; simp, ?_⟩
      have eL9 := upd_same (H := HQ) (a := L) (o := HO.lst ([.ref a1, .ref a2] ++ [.ref a3]))
      have x9 : LamX.ExtN H (upd HQ L (.lst ([.ref a1, .ref a2] ++ [.ref a3]))) := fun b o e z => by
        rw [upd_ne (fr b o e z)]
        exact s8 _ _ (x6 b o e z)
      have tb9 : LamX.Tabs T (upd HQ L (.lst ([.ref a1, .ref a2] ++ [.ref a3]))) := tabs_but (tb5.ext fun b o q => s8 _ _ (s6 _ _ q)) eL8 fun b o nb e => by rw [upd_ne nb]; exact e
      have c3' : CauAt (upd HQ L (.lst ([.ref a1, .ref a2] ++ [.ref a3]))) CN a3 y3 v := c_but c3 eL8
      have c1' : CauAt (upd HQ L (.lst ([.ref a1, .ref a2] ++ [.ref a3]))) CN a1 y1 v := c_but ((c1.keeps x46).same s8) eL8
      have c2' : CauAt (upd HQ L (.lst ([.ref a1, .ref a2] ++ [.ref a3]))) CN a2 y2 v := c_but ((c2.keeps x46).same s8) eL8
      clear c1 c2 c3
      generalize upd HQ L (.lst ([.ref a1, .ref a2] ++ [.ref a3])) = H9 at eL9 x9 tb9 c1' c2' c3' ⊢
      clear eL8 s8 s78 eT nt na nta ny ey s7 se ne0 hv6 hc6 x6 x46 hR s6 tb5 gr5 eL x4 tb4
      have eL : H9 L = some (.lst [.ref a1, .ref a2, .ref a3]) := eL9
      have x4 := x9
      have tb4 := tb9
      clear eL9 x9 tb9
      clear H4
      have c1 := c1'
      have c2 := c2'
      have c3 := c3'
      clear c1' c2' c3' 
      have hH : ∃ H, H = H9 := ⟨_, rfl⟩
      obtain ⟨H4, rfl⟩ := hH
      refine ⟨_, rfl, _, rfl, nm, ns, v, d, rfl, sqT_extN x4 hn, nok, hv.extN x4, fun b Ha sa hb => ⟨_, rfl, ?_⟩⟩
      have hb : b = false := by
        cases b with
        | false => rfl
        | true => exact absurd (hb.mp rfl) lot
      subst hb
      have hva := (hv.extN x4).same sa
      have eLa := sa _ _ eL
      refine iteB rfl ⟨_, rfl, L, rfl, ⟨_, SqL.of eLa⟩, all_over (walk_list (a := L) (xs := [.ref a1, .ref a2, .ref a3])) [(a1, y1), (a2, y2), (a3, y3)] (fun z => V.ref z.1) (fun _ => true) rfl (by simp) (fun H s => s.seq (SqL.of eLa)) ?_ ?_⟩
      · rintro i ⟨a0, y0⟩ Hb R hz sb kk
        have c0 : CauAt Ha CN a0 y0 v := by
          match i, hz with
          | 0, hz => cases hz; exact c1.same sa
          | 1, hz => cases hz; exact c2.same sa
          | 2, hz => cases hz; exact c3.same sa
          | _ + 3, hz => simp at hz
        have c0' := c0.same sb
        have hvb := hva.same sb
        exact ⟨rfl, _, rfl, a0, CN, y0, fI, v, .ref CN, .ref CN, true, rfl, ec, ek, c0', .own CN, kit_self, _, rfl, iteT ⟨_, rfl, a0, CN, y0, _, fI, rfl, ec, c0', v, d, rfl, hvb, _, rfl, v, d, rfl, hvb, rfl, by rw [decide_eq_true rfl]; exact kk _ (Same.refl _)⟩⟩
      · intro Hb sb
        exact k _ (x4.trans (.of (sa.trans sb))) (tb4.ext fun b o q => sb _ _ (sa _ _ q))
end
end K6
set_option Elab.async false
set_option linter.all false
set_option maxRecDepth 100000
set_option maxHeartbeats 1500000
set_option pp.maxSteps 1200
set_option pp.deepTerms false
namespace K6
open PySem PySem.Spec PyProof.Rows L2 Lk
/-! ### terms that give data, told once -/
/-- a value that is data, with these bounds -/
def GdV (K : PySem.W.Frag) (as : List Addr) (c k : Nat) (H : Hp) (v : V) : Prop := ∃ d, Dp K (hid as H) v d ∧ Nice c k d
/-- a tuple of at most m data -/
def GtV (K : PySem.W.Frag) (as : List Addr) (c k m : Nat) (H : Hp) (v : V) : Prop := ∃ q ds, v = .ref q ∧ Dp K (hid as H) (.ref q) (.tuple ds) ∧ ds.length ≤ m ∧ ∀ d ∈ ds, Nice c k d
def Gd (K : PySem.W.Frag) (a : Addr) (as : List Addr) (P : Hp → V → Prop) (n : Nat) (te : TE) (σ : L2.St) (H : Hp) : Prop :=
  ∀ H1 N, ExtP a H H1 → PotA a as N H1 → N + n ≤ 50000 → ∀ Q : VK, (∀ v H2, ExtP a H1 H2 → PotA a as (N + n) H2 → P H2 v → Q v H2) → te σ H1 Q
def GdA (K : PySem.W.Frag) (a : Addr) (as : List Addr) (c k m n : Nat) (ta : TA) (σ : L2.St) (H : Hp) : Prop :=
  ∀ H1 N, ExtP a H H1 → PotA a as N H1 → N + n ≤ 50000 → ∀ Q : List V → Hp → Prop, (∀ vs H2, ExtP a H1 H2 → PotA a as (N + n) H2 → (∃ ds, DpAll K (hid as H2) vs ds ∧ ds.length = m ∧ ∀ d ∈ ds, Nice c k d) → Q vs H2) → ta σ H1 Q
theorem dpAll_ext {K : PySem.W.Frag} {a : Addr} {as : List Addr} {H H' : Hp} {vs : List V} {ds : List PyData} (ha : a ∈ as) (h : DpAll K (hid as H) vs ds) (x : ExtP a H H') : DpAll K (hid as H') vs ds := DpAll.same (hid_ext ha x) h
section
variable {K : PySem.W.Frag} {a : Addr} {as : List Addr} {σ : L2.St} {H : Hp} {c k m n : Nat}
theorem GdV.ext {H' : Hp} {v : V} (h : GdV K as c k H v) (ha : a ∈ as) (x : ExtP a H H') : GdV K as c k H' v := let ⟨d, h1, h2⟩ := h; ⟨d, dp_ext ha h1 x, h2⟩
theorem GtV.ext {H' : Hp} {v : V} (h : GtV K as c k m H v) (ha : a ∈ as) (x : ExtP a H H') : GtV K as c k m H' v := let ⟨q, ds, e, h1, h2⟩ := h; ⟨q, ds, e, dp_ext ha h1 x, h2⟩
theorem GtV.gd {v : V} {c' k' : Nat} (h : GtV K as c k m H v) (hc : m * (c + 1) ≤ c') (hk : k + 1 ≤ k') : GdV K as c' k' H v := let ⟨q, ds, e, h1, h2, h3⟩ := h; ⟨_, e ▸ h1, (Nice.tup h3 h2).mono hc hk⟩
theorem GdV.mono {v : V} {c' k' : Nat} (h : GdV K as c k H v) (hc : c ≤ c') (hk : k ≤ k') : GdV K as c' k' H v := let ⟨d, h1, h2⟩ := h; ⟨d, h1, h2.mono hc hk⟩
theorem gd_var {i : Nat} {v : V} (hσ : σ[i]? = some (some v)) (g : GdV K as c k H v) : Gd K a as (GdV K as c k) 0 (tVar i) σ H := fun H1 N x p _ Q hQ => ⟨v, hσ, hQ _ _ (.refl _ _) p (g.ext p.mem x)⟩
theorem gt_var {i : Nat} {v : V} (hσ : σ[i]? = some (some v)) (g : GtV K as c k m H v) : Gd K a as (GtV K as c k m) 0 (tVar i) σ H := fun H1 N x p _ Q hQ => ⟨v, hσ, hQ _ _ (.refl _ _) p (g.ext p.mem x)⟩
theorem gd_str {z : Str} (h : Nice c k (.str z)) : Gd K a as (GdV K as c k) 0 (tC (.str z)) σ H := fun H1 N x p _ Q hQ => hQ _ _ (.refl _ _) p ⟨_, .str z, h⟩
theorem gd_non : Gd K a as (GdV K as c k) 0 (tC .non) σ H := fun H1 N x p _ Q hQ => hQ _ _ (.refl _ _) p ⟨_, .non, nice_none.mono (Nat.zero_le _) (Nat.zero_le _)⟩
theorem gda_nil : GdA K a as c k 0 0 tNil σ H := fun H1 N x p _ Q hQ => hQ _ _ (.refl _ _) p ⟨[], .nil, rfl, fun d h => by cases h⟩
theorem gda_cons {n1 n2 : Nat} {te : TE} {ta : TA} (h : Gd K a as (GdV K as c k) n1 te σ H) (t : GdA K a as c k m n2 ta σ H) : GdA K a as c k (m + 1) (n1 + n2) (tCons te ta) σ H := fun H1 N x p hN Q hQ =>
  h H1 N x p (by omega) _ fun v H2 x2 p2 g2 => t H2 (N + n1) (x.trans x2) p2 (by omega) _ fun vs H3 x3 p3 ⟨ds, h1, h2, h3⟩ => by
    obtain ⟨d, g1, g3⟩ := g2
    refine hQ _ _ (x2.trans x3) (by rw [← Nat.add_assoc]; exact p3) ⟨d :: ds, .cons (dp_ext p3.mem g1 x3) h1, by rw [List.length_cons, h2], fun e he => ?_⟩
    rcases List.mem_cons.mp he with rfl | he
    · exact g3
    · exact h3 e he
theorem gt_tup {ta : TA} (t : GdA K a as c k m n ta σ H) (hm : m ≤ 1000) : Gd K a as (GtV K as c k m) n (tTup ta) σ H := fun H1 N x p hN Q hQ =>
  t H1 N x p hN _ fun vs H2 x2 p2 ⟨ds, h1, h2, h3⟩ => by
    have l := DpAll.len h1
    refine ⟨by rw [sizeLine_eq]; omega, fun q nq => ?_⟩
    exact hQ _ _ (x2.trans (.of (same_new nq))) (p2.same (same_new nq)) ⟨q, ds, rfl, dp_new p2.ne nq h1, by omega, h3⟩
theorem gt_gd {c' k' : Nat} {te : TE} (t : Gd K a as (GtV K as c k m) n te σ H) (hc : m * (c + 1) ≤ c') (hk : k + 1 ≤ k') : Gd K a as (GdV K as c' k') n te σ H := fun H1 N x p hN Q hQ =>
  t H1 N x p hN Q fun v H2 x2 p2 g => hQ v H2 x2 p2 (g.gd hc hk)
theorem gd_mono {c' k' : Nat} {te : TE} (t : Gd K a as (GdV K as c k) n te σ H) (hc : c ≤ c') (hk : k ≤ k') : Gd K a as (GdV K as c' k') n te σ H := fun H1 N x p hN Q hQ =>
  t H1 N x p hN Q fun v H2 x2 p2 g => hQ v H2 x2 p2 (g.mono hc hk)
/-- a part that is told in the text -/
def CnT (t : TO) : Prop := ∀ σ H (Q : Option Int → Hp → Prop), (∀ o, Q o H) → t σ H Q
theorem cn_no : CnT tNoPart := fun _ _ _ h => h _
theorem cn_int {i : Int} : CnT (tPart (tC (.int i))) := fun _ _ _ h => ⟨i, rfl, h _⟩
theorem gt_sl {te : TE} {tl th : TO} (t : Gd K a as (GtV K as c k m) n te σ H) (hl : CnT tl) (hh : CnT th) : Gd K a as (GtV K as c k m) n (tSl (rSlA K) te tl th) σ H := fun H1 N x p hN Q hQ =>
  t H1 N x p hN _ fun v H2 x2 p2 ⟨q, ds, e, h1, h2, h3⟩ => by
    subst e
    refine hl _ _ _ fun lo => hh _ _ _ fun hi => ?_
    exact slice_dp p2.ne h1 fun p' H' es s' m' l' d' => hQ _ _ (x2.trans (.of s')) (p2.same s') ⟨p', es, rfl, d', by omega, fun e he => h3 e (m' e he)⟩
theorem gt_rev {te : TE} (t : Gd K a as (GtV K as c k m) n te σ H) : Gd K a as (GtV K as c k m) n (tRev K te) σ H := fun H1 N x p hN Q hQ =>
  t H1 N x p hN _ fun v H2 x2 p2 ⟨q, ds, e, h1, h2, h3⟩ => by
    subst e
    exact rev_dp p2.ne h1 fun p' H' s' d' => hQ _ _ (x2.trans (.of s')) (p2.same s') ⟨p', _, rfl, d', by rw [List.length_reverse]; exact h2, fun e he => h3 e (List.mem_reverse.mp he)⟩
theorem gt_cat {m1 m2 n1 n2 : Nat} {t1 t2 : TE} (h1 : Gd K a as (GtV K as c k m1) n1 t1 σ H) (h2 : Gd K a as (GtV K as c k m2) n2 t2 σ H) (hm : m1 + m2 ≤ 1000) : Gd K a as (GtV K as c k (m1 + m2)) (n1 + n2) (tOp (rCatA K) t1 t2) σ H := fun H1 N x p hN Q hQ =>
  h1 H1 N x p (by omega) _ fun v H2 x2 p2 ⟨q, ds, e, g1, g2, g3⟩ => h2 H2 (N + n1) (x.trans x2) p2 (by omega) _ fun u H3 x3 p3 ⟨r, es, e', f1, f2, f3⟩ => by
    subst e e'
    refine cat_dp p3.ne (dp_ext p3.mem g1 x3) f1 (by omega) fun p' H' s' d' => hQ _ _ ((x2.trans x3).trans (.of s')) (by rw [← Nat.add_assoc]; exact p3.same s') ⟨p', _, rfl, d', by rw [List.length_append]; omega, fun e he => ?_⟩
    exact (List.mem_append.mp he).elim (g3 e) (f3 e)
/-- list(t) -/
theorem gd_list {c' k' : Nat} {te : TE} (t : Gd K a as (GtV K as c k m) n te σ H) (hc : m * (c + 1) ≤ c') (hk : k + 1 ≤ k') :
    Gd K a as (GdV K as c' k') n (tCB (fun xs H Q => ∃ p ys, xs = [V.ref p] ∧ (SqL K H p ys ∨ SqT K H p ys) ∧ ∀ l, H l = none → Q (.ref l) (upd H l (.lst ys))) (tCons te tNil)) σ H := fun H1 N x p hN Q hQ =>
  t H1 N x p hN _ fun v H2 x2 p2 ⟨q, ds, e, h1, h2, h3⟩ => by
    subst e
    cases h1 with
    | @tup _ xs _ hs h =>
      refine ⟨q, xs, rfl, .inr (sqT_same hid_sub hs), fun l nl => hQ _ _ (x2.trans (.of (same_new nl))) (p2.same (same_new nl)) ⟨.list ds, dp_newL p2.ne nl h, (Nice.lst h3 h2).mono hc hk⟩⟩
/-- t[i] of a name -/
theorem gd_ix {i j : Nat} {q : Addr} {xs : List V} {v : V} (hσ : σ[i]? = some (some (.ref q))) (hs : SqT K (hid as H) q xs) (hv : xs[j]? = some v) (g : GdV K as c k H v) : Gd K a as (GdV K as c k) 0 (tOp (rIxT K) (tVar i) (tC (.int (j : Int)))) σ H := fun H1 N x p _ Q hQ =>
  ⟨_, hσ, q, xs, _, v, rfl, rfl, sqT_same hid_sub (sqT_same (hid_ext p.mem x) hs), atI_nat hv, hQ _ _ (.refl _ _) p (g.ext p.mem x)⟩
theorem gt_ix {i j : Nat} {q : Addr} {xs : List V} {v : V} (hσ : σ[i]? = some (some (.ref q))) (hs : SqT K (hid as H) q xs) (hv : xs[j]? = some v) (g : GtV K as c k m H v) : Gd K a as (GtV K as c k m) 0 (tOp (rIxT K) (tVar i) (tC (.int (j : Int)))) σ H := fun H1 N x p _ Q hQ =>
  ⟨_, hσ, q, xs, _, v, rfl, rfl, sqT_same hid_sub (sqT_same (hid_ext p.mem x) hs), atI_nat hv, hQ _ _ (.refl _ _) p (g.ext p.mem x)⟩
theorem gd_add {i : Nat} {z y : Str} (hσ : σ[i]? = some (some (.str z))) (hl : z.length + y.length ≤ sizeLine) (g : Nice c k (.str (z ++ y))) :
    Gd K a as (GdV K as c k) 0 (tOp (fun x y H Q => ∃ i j, x = V.str i ∧ y = V.str j ∧ i.length + j.length ≤ sizeLine ∧ Q (.str (i ++ j)) H) (tVar i) (tC (.str y))) σ H := fun H1 N x p _ Q hQ =>
  ⟨_, hσ, z, y, rfl, rfl, hl, hQ _ _ (.refl _ _) p ⟨_, .str _, g⟩⟩
/-- the values of a list so far -/
def GdL (K : PySem.W.Frag) (as : List Addr) (c k : Nat) (H : Hp) (xs : List V) : Prop := ∀ x ∈ xs, GdV K as c k H x
theorem GdL.ext {H' : Hp} {xs : List V} (h : GdL K as c k H xs) (ha : a ∈ as) (x : ExtP a H H') : GdL K as c k H' xs := fun v hv => (h v hv).ext ha x
theorem gdl_of {vs : List V} (h : ∃ ds, DpAll K (hid as H) vs ds ∧ ds.length = m ∧ ∀ d ∈ ds, Nice c k d) : GdL K as c k H vs ∧ vs.length = m := by
  obtain ⟨ds, h1, h2, h3⟩ := h
  refine ⟨fun v hv => ?_, by rw [DpAll.len h1, h2]⟩
  obtain ⟨zs, e1, e2, e3⟩ := dpAll_zip h1
  rw [← e1] at hv
  obtain ⟨z, hz, rfl⟩ := List.mem_map.mp hv
  exact ⟨z.2, e3 z hz, h3 _ (by rw [← e2]; exact List.mem_map.mpr ⟨z, hz, rfl⟩)⟩
theorem hid_upd {F : Addr} {o : HO} (hF : F ∈ as) : Same (hid as H) (hid as (upd H F o)) := hid_but fun b o' hb e => by
  rw [upd_ne (fun z : b = F => hb (by rw [z]; exact hF))]
  exact e
/-- found.extend([..]) -/
theorem ext_wish {F : Addr} {xs : List V} {ta : TA} {N : Nat} {Q : VK} {i : Nat} (hA : GdA K a as c k m n ta σ H) (hp : PotA a as N H) (hN : N + n ≤ 50000) (hm : m ≤ 1000) (hσ : σ[i]? = some (some (.ref F))) (Fa : F ≠ a) (hF : F ∈ as) (eF : H F = some (.lst xs)) (xl : xs.length ≤ 1000)
    (g : GdL K as c k H xs) (hQ : ∀ vs H', (∀ b o, b ≠ a → b ≠ F → H b = some o → H' b = some o) → PotA a as (N + n) H' → H' F = some (.lst (xs ++ vs)) → vs.length = m → GdL K as c k H' (xs ++ vs) → Q .non H') :
    tBM K "list" rExtend (tVar i) (tCons (tLst ta) tNil) σ H Q := by
  refine ⟨_, hσ, .inl ⟨rfl, _, SqL.of eF⟩, ?_⟩
  refine hA H N (.refl _ _) hp hN _ fun vs H2 x2 p2 gd => ?_
  obtain ⟨g2, vl⟩ := gdl_of gd
  refine ⟨by rw [sizeLine_eq]; omega, fun l nl => ?_⟩
  have s3 : Same H2 (upd H2 l (.lst vs)) := same_new nl
  have eF2 := x2 _ _ Fa eF
  have p3 := p2.same s3
  have eF3 := s3 _ _ eF2
  have el : upd H2 l (.lst vs) l = some (.lst vs) := upd_same
  have g3 := g2.ext p2.mem (.of s3)
  have g4 := (g.ext p2.mem x2).ext p2.mem (.of s3)
  generalize upd H2 l (.lst vs) = H3 at s3 p3 eF3 el g3 g4 ⊢
  refine ⟨F, l, xs, vs, rfl, rfl, eF3, el, by rw [sizeLine_eq]; omega, hQ vs _ (fun b o ba bF e => ?_) ⟨?_, fun b hb e => ?_, p3.mem⟩ upd_same vl fun v hv => ?_⟩
  · rw [upd_ne bF]
    exact s3 _ _ (x2 _ _ ba e)
  · obtain ⟨o, b, c, e, r⟩ := p3.pot
    exact ⟨o, b, c, by rw [upd_ne Fa.symm]; exact e, r⟩
  · by_cases z : b = F
    · subst z
      rw [upd_same] at e
      cases e
    · rw [upd_ne z] at e
      exact p3.ne b hb e
  · have : GdV K as c k H3 v := (List.mem_append.mp hv).elim (g4 v) (g3 v)
    obtain ⟨d, h1, h2⟩ := this
    exact ⟨d, Dp.same (hid_upd hF) h1, h2⟩
/-- found = [..] -/
theorem set_wish {ta : TA} {N i : Nat} {u : TS} {D : Ends} (hA : GdA K a as c k m n ta σ H) (hp : PotA a as N H) (hN : N + n ≤ 50000) (hm : m ≤ 1000)
    (hQ : ∀ vs F H', ExtP a H H' → PotA a as (N + n) H' → H F = none → F ≠ a → H' F = some (.lst vs) → vs.length = m → GdL K as c k H' vs → (∀ v ∈ vs, ∃ d, Dp K (hid (F :: as) H') v d ∧ Nice c k d) → u D (σ.set i (some (.ref F))) H') :
    tSeq (tAsg (tLst ta) (gName i)) u D σ H := by
  refine hA H N (.refl _ _) hp hN _ fun vs H2 x2 p2 gd => ?_
  obtain ⟨g2, vl⟩ := gdl_of gd
  refine ⟨by rw [sizeLine_eq]; omega, fun F nF => ?_⟩
  have s3 : Same H2 (upd H2 F (.lst vs)) := same_new nF
  have HF : H F = none := by
    cases z : H F with
    | none => rfl
    | some o => rw [x2 _ _ (p2.nea nF) z] at nF; cases nF
  refine hQ vs F _ (x2.trans (.of s3)) (p2.same s3) HF (p2.nea nF) upd_same vl (g2.ext p2.mem (.of s3)) fun v hv => ?_
  obtain ⟨d, h1, h2⟩ := g2 v hv
  refine ⟨d, Dp.same (fun b o e => ?_) h1, h2⟩
  have nb : b ∉ as := fun hb => by unfold hid at e; rw [if_pos hb] at e; cases e
  rw [hid_ne nb] at e
  have bF : b ≠ F := fun z => by rw [z, nF] at e; cases e
  rw [hid_ne (fun h => (List.mem_cons.mp h).elim bF nb), upd_ne bF]
  exact e
theorem ext_seq {F : Addr} {xs : List V} {ta : TA} {N i : Nat} {u : TS} {D : Ends} (hA : GdA K a as c k m n ta σ H) (hp : PotA a as N H) (hN : N + n ≤ 50000) (hm : m ≤ 1000) (hσ : σ[i]? = some (some (.ref F))) (Fa : F ≠ a) (hF : F ∈ as) (eF : H F = some (.lst xs)) (xl : xs.length ≤ 1000)
    (g : GdL K as c k H xs) (hQ : ∀ vs H', (∀ b o, b ≠ a → b ≠ F → H b = some o → H' b = some o) → PotA a as (N + n) H' → H' F = some (.lst (xs ++ vs)) → vs.length = m → GdL K as c k H' (xs ++ vs) → u D σ H') :
    tSeq (tDrop (tBM K "list" rExtend (tVar i) (tCons (tLst ta) tNil))) u D σ H := ext_wish hA hp hN hm hσ Fa hF eF xl g hQ
theorem ext_one {F : Addr} {xs : List V} {ta : TA} {N i : Nat} {D : Ends} (hA : GdA K a as c k m n ta σ H) (hp : PotA a as N H) (hN : N + n ≤ 50000) (hm : m ≤ 1000) (hσ : σ[i]? = some (some (.ref F))) (Fa : F ≠ a) (hF : F ∈ as) (eF : H F = some (.lst xs)) (xl : xs.length ≤ 1000)
    (g : GdL K as c k H xs) (hQ : ∀ vs H', (∀ b o, b ≠ a → b ≠ F → H b = some o → H' b = some o) → PotA a as (N + n) H' → H' F = some (.lst (xs ++ vs)) → vs.length = m → GdL K as c k H' (xs ++ vs) → D.nx σ H') :
    tDrop (tBM K "list" rExtend (tVar i) (tCons (tLst ta) tNil)) D σ H := ext_wish hA hp hN hm hσ Fa hF eF xl g hQ
/-- what was before a new list is told beside it -/
theorem hid_add {F : Addr} {H' : Hp} (nF : H F = none) (x : ExtP a H H') : Same (hid [a] H) (hid [F, a] H') := fun b o e => by
  have nb : b ∉ [a] := fun hb => by unfold hid at e; rw [if_pos hb] at e; cases e
  rw [hid_ne nb] at e
  have bF : b ≠ F := fun z => by rw [z, nF] at e; cases e
  rw [hid_ne (fun h => (List.mem_cons.mp h).elim bF nb)]
  exact x b o (fun z => nb (by rw [z]; exact List.mem_singleton.mpr rfl)) e
theorem gt_add {F : Addr} {H' : Hp} {v : V} (nF : H F = none) (x : ExtP a H H') (g : GtV K [a] c k m H v) : GtV K [F, a] c k m H' v := let ⟨q, ds, e, h1, h2⟩ := g; ⟨q, ds, e, Dp.same (hid_add nF x) h1, h2⟩
theorem gd_add' {F : Addr} {H' : Hp} {v : V} (nF : H F = none) (x : ExtP a H H') (g : GdV K [a] c k H v) : GdV K [F, a] c k H' v := let ⟨d, h1, h2⟩ := g; ⟨d, Dp.same (hid_add nF x) h1, h2⟩
theorem gt_but {F : Addr} {H' : Hp} {v : V} (ha : a ∈ as) (hF : F ∈ as) (g : GtV K as c k m H v) (y : ∀ b o, b ≠ a → b ≠ F → H b = some o → H' b = some o) : GtV K as c k m H' v := let ⟨q, ds, e, h1, h2⟩ := g; ⟨q, ds, e, Dp.same (hid_but fun b o hb e => y b o (fun z => hb (by rw [z]; exact ha)) (fun z => hb (by rw [z]; exact hF)) e) h1, h2⟩
theorem hid_weak {F : Addr} : Same (hid (F :: as) H) (hid as H) := fun b o e => by
  have nb : b ∉ F :: as := fun hb => by unfold hid at e; rw [if_pos hb] at e; cases e
  rw [hid_ne nb] at e
  rw [hid_ne (fun h => nb (List.mem_cons_of_mem _ h))]
  exact e
theorem GdV.weak {F : Addr} {v : V} (g : GdV K (F :: as) c k H v) : GdV K as c k H v := let ⟨d, h1, h2⟩ := g; ⟨d, Dp.same hid_weak h1, h2⟩
/-- a drawn lot -/
theorem gd_alot {i j : Nat} {nm : Addr} {ns : List Str} (h0 : σ[i]? = some (some (.ref a))) (h1 : σ[j]? = some (some (.ref nm))) (hn : SqT K (hid as H) nm (ns.map V.str)) (nma : nm ≠ a) (nd : ns.Nodup) (n6 : ns.length ≤ 6) (asc : ∀ z ∈ ns, PyData.strOk z = true ∧ z.length ≤ 8) :
    Gd K a as (GtV K as 8 0 6) 20 (tCall (spALot K) [] E0 (tCons (tVar i) (tCons (tVar j) (tCons (tC (.int 0)) tNil)))) σ H := fun H1 N x p hN Q hQ =>
  ⟨_, h0, _, h1, a, nm, 0, N, ns, rfl, p.pot, by omega, nma, .inr (sqT_same hid_sub (sqT_same (hid_ext p.mem x) hn)), nd, by omega, by decide, by omega, fun zs q H2 sub _ x2 p2 nq eq => by
    refine hQ (.ref q) H2 x2 (p.ext x2 p2) ⟨q, strsD zs, rfl, .tup (SqT.of (by rw [hid_ne (ne_fresh p.ne nq)]; exact eq)) (dp_strs zs), ?_, fun d hd => ?_⟩
    · have := sub.length_le
      unfold strsD
      rw [List.length_map]
      omega
    · obtain ⟨z, hz, rfl⟩ := List.mem_map.mp hd
      have := asc z (sub.subset hz)
      exact Nice.str this.1 this.2⟩
end
end K6
set_option Elab.async false
set_option linter.all false
set_option maxRecDepth 100000
set_option maxHeartbeats 1500000
set_option pp.maxSteps 1200
set_option pp.deepTerms false
namespace K6
open PySem PySem.Spec PyProof.Rows L2 Lk
abbrev sAllLots : Stmt := top 29
def retLScope (st : Stmt) (i : Nat) : Scope := match (defBody st).getD i (.Pass ⟨0, 0, 0, 0⟩) with
  | .Return (some (.ListComp _ _ sc _)) _ => sc
  | _ => defScope st
/-- all choices of places, the later places in the later half -/
def rowsN : Nat → List (List Nat)
  | 0 => [[]]
  | n + 1 => rowsN n ++ (rowsN n).map (· ++ [n])
theorem rowC_succ (n c : Nat) : rowC (n + 1) c = rowC n c ++ (if c / 2 ^ n % 2 = 1 then [n] else []) := by
  unfold rowC
  rw [List.range_succ, List.filter_append]
  congr 1
  by_cases h : c / 2 ^ n % 2 = 1
  · simp [h]
  · simp [h]
theorem rowsN_eq : ∀ n, rowsN n = (List.range (2 ^ n)).map (rowC n)
  | 0 => by
    show [[]] = (List.range 1).map (rowC 0)
    rfl
  | n + 1 => by
    have e : List.range (2 ^ (n + 1)) = List.range (2 ^ n) ++ (List.range (2 ^ n)).map (2 ^ n + ·) := by
      rw [Nat.pow_succ, Nat.mul_two, List.range_add]
    rw [rowsN, rowsN_eq n, e, List.map_append, List.map_map, List.map_map]
    congr 1
    · refine List.map_congr_left fun c hc => ?_
      have lt := List.mem_range.mp hc
      rw [rowC_succ, Nat.div_eq_of_lt lt]
      simp
    · refine List.map_congr_left fun c hc => ?_
      have lt := List.mem_range.mp hc
      show rowC n c ++ [n] = rowC (n + 1) (2 ^ n + c)
      have d : (2 ^ n + c) / 2 ^ n = 1 := by
        rw [Nat.add_div_left _ (Nat.pow_pos (by decide)), Nat.div_eq_of_lt lt]
      rw [rowC_succ, d]
      have e2 : rowC n (2 ^ n + c) = rowC n c := rowC_congr fun p hp => by
        have : 2 ^ n = 2 ^ p * (2 * 2 ^ (n - p - 1)) := by
          rw [← Nat.mul_assoc, Nat.mul_comm (2 ^ p) 2, Nat.mul_comm 2, ← Nat.pow_succ, ← Nat.pow_add]
          congr 1
          omega
        rw [this, Nat.mul_add_div (Nat.pow_pos (by decide)), Nat.mul_add_mod]
      rw [e2]
      rfl
theorem rowsN_len (n : Nat) : (rowsN n).length = 2 ^ n := by rw [rowsN_eq, List.length_map, List.length_range]
theorem paired_map_eq2 {α β γ : Type} {R : α → β → Prop} {f : α → γ} {g : β → γ} (h : ∀ a b, R a b → f a = g b) : ∀ {xs : List α} {ys : List β}, Paired R xs ys → xs.map f = ys.map g
  | _, _, .nil => rfl
  | _, _, .cons r t => by rw [List.map_cons, List.map_cons, h _ _ r, paired_map_eq2 h t]
theorem paired_mem2 {α β : Type} {R : α → β → Prop} : ∀ {xs : List α} {ys : List β}, Paired R xs ys → ∀ x ∈ xs, ∃ y ∈ ys, R x y
  | _, _, .nil, x, h => by cases h
  | _, _, .cons r t, x, h => by
    rcases List.mem_cons.mp h with rfl | h
    · exact ⟨_, List.mem_cons_self, r⟩
    · obtain ⟨y, h1, h2⟩ := paired_mem2 t x h
      exact ⟨y, List.mem_cons_of_mem _ h1, h2⟩
def RelI (H : Hp) (v : V) (ns : List Nat) : Prop := ∃ t, v = V.ref t ∧ H t = some (.tup ((ns.map fun p : Nat => (p : Int)).map V.int))
theorem RelI.keepP {H H' : Hp} (k : Keep H H') (v : V) (r : List Nat) (h : RelI H v r) : RelI H' v r := by
  obtain ⟨t, e1, e2⟩ := h
  exact ⟨t, e1, k _ _ e2 fun _ z => by cases z⟩
def RelPT (H : Hp) (v : V) (ns : List Nat) : Prop := ∃ t b, v = V.ref t ∧ H t = some (.tup [.int (ns.length : Int), .ref b]) ∧ H b = some (.tup ((ns.map fun p : Nat => (p : Int)).map V.int))
theorem RelPT.inj {H : Hp} {v : V} {ns ms : List Nat} (h : RelPT H v ns) (g : RelPT H v ms) : ns = ms := by
  obtain ⟨t, b, e1, e2, e3⟩ := h
  obtain ⟨t', b', f1, f2, f3⟩ := g
  rw [e1] at f1
  cases f1
  rw [e2] at f2
  injection f2 with f2
  injection f2 with f2
  injection f2 with f4 f5
  injection f5 with f5 _
  injection f5 with f5
  subst f5
  rw [e3] at f3
  injection f3 with f3
  injection f3 with f3
  have := (List.map_inj_right (fun a b h => V.int.inj h)).mp f3
  exact (List.map_inj_right (fun a b h => Int.ofNat.inj h)).mp this
theorem RelPT.keepP {H H' : Hp} (k : Keep H H') (v : V) (r : List Nat) (h : RelPT H v r) : RelPT H' v r := by
  obtain ⟨t, b, e1, e2, e3⟩ := h
  exact ⟨t, b, e1, k _ _ e2 (fun _ z => by cases z), k _ _ e3 fun _ z => by cases z⟩
section
variable {P : Program} {w : World} {K : PySem.W.Frag} {mg : Str → Option Value} {base : Heap} {f : Addr} {fd : FuncData}
def spAllLots (K : PySem.W.Frag) : Sp := fun vs H Q _ => ∃ (n : Addr) (zs : List Str), vs = [.ref n] ∧ SqT K H n (zs.map V.str) ∧ zs.length ≤ 6 ∧
  ∀ (D : Addr) (ts : List V) (rws : List (List Str)) (H' : Hp), Same H H' → H D = none → H' D = some (.lst ts) → Paired (RelT H') ts rws → LotsOk zs rws → Q (.ref D) H'
abbrev nmAL : List Str := ["names", "found", "place", "lot", "ranked", "size"]
theorem scAllLots : FnScope nmAL ["names"] (defScope sAllLots) := ⟨rfl, rfl, rfl, by decide +kernel, rfl, by decide +kernel, by decide +kernel⟩
def tPlacesL (K : PySem.W.Frag) : TE := fun σ H Q => tLc (iTup K (tVar 3)) (gName 2) tYes (tOp (rIxT K) (tVar 0) (tVar 2)) [2] σ H fun x H1 => kTup K x H1 Q
theorem ok_allLots (F : Fun K "_law_all_lots" "_law_all_lots" sAllLots f fd) (T : Bl mg) (Cc : Cn mg) : FnOk P w K mg base CX0 1 f fd ["names"] (spAllLots K) := by
  refine F.ok scAllLots (fun vs H Q E h => ?_) (fun cdv A outer s H vs Q E hr h => ?_)
  · obtain ⟨n, zs, rfl, _⟩ := h
    rfl
  · obtain ⟨n, zs, rfl, hn, z6, k⟩ := h
    have nd := scAllLots.nd
    have hu := hu_of hr
    have hu8 : _ + 8 < cLine := Nat.lt_of_le_of_lt (Nat.add_le_add_left (by decide) _) (room64 hr)
    refine ⟨_, pss_cons (ps_set (i := 1) nd rfl (.inl rfl) (pe_lst (pa_cons (pe_tup pa_nil) pa_nil)))
      (pss_cons (ps_for PassesOwn.never rfl (pi_range1 (by rfl) T.range (pa_cons (pe_callB call_len_seq (by rfl) T.len PySem.boot_len (pa_cons (pv 0) pa_nil)) pa_nil)) (pg_name (i := 2) nd rfl (.inr rfl))
          (pss_one (ps_set (i := 1) nd rfl (.inl rfl) (pe_op op_cat (pv 1) (pe_lc (own := [("lot", 3)]) (g := gName 3) (tt := tYes) (te := tOp (rCatT2 K) (tVar 3) (tTup (tCons (tVar 2) tNil))) rfl nd (pi_list (pv 1)) (blkOk_by (N := nmAL) (sc := defScope sAllLots) (by decide +kernel))
              (fun _ _ _ _ _ => pg_name (i := 3) nd rfl (.inl rfl)) (fun _ _ _ _ _ => pts_nil) (fun _ _ _ _ _ => pe_op op_catT2 (pv 3) (pe_tup (pa_cons (pv 2) pa_nil))))))))
      (pss_cons (ps_set (i := 4) nd rfl (.inl rfl) (pe_callB (cr_sortedLen (tup := true) hu8) (by rfl) Cc.sorted boot_sorted (pa_cons (pe_lc (own := [("lot", 3)]) (g := gName 3) (tt := tYes) (te := tTup (tCons (tCB (rLenS K) (tCons (tVar 3) tNil)) (tCons (tVar 3) tNil))) rfl nd (pi_list (pv 1))
          (blkOk_by (N := nmAL) (sc := defScope sAllLots) (by decide +kernel)) (fun _ _ _ _ _ => pg_name (i := 3) nd rfl (.inl rfl)) (fun _ _ _ _ _ => pts_nil)
          (fun _ _ _ _ _ => pe_tup (pa_cons (pe_callB call_len_seq (by rfl) T.len PySem.boot_len (pa_cons (pv 3) pa_nil)) (pa_cons (pv 3) pa_nil)))) pa_nil)))
      (pss_one (ps_ret (pe_lc (own := [("size", 5), ("lot", 3)]) (g := gTup K 2 (gCons (gName 5) (gCons (gName 3) gNil))) (tt := tYes) (te := tPlacesL K) rfl nd (pi_list (pv 4))
          (blkOk_by (N := nmAL) (sc := defScope sAllLots) (by decide +kernel)) (fun _ _ _ _ _ => pg_tup rfl (pgs_cons (pg_name (i := 5) nd rfl (.inl rfl)) (pgs_cons (pg_name (i := 3) nd rfl (.inl rfl)) pgs_nil))) (fun _ _ _ _ _ => pts_nil)
          (fun _ _ _ _ _ => pe_tupleOf (by rfl) Cc.tuple (pe_lc (own := [("place", 2)]) (g := gName 2) (tt := tYes) (te := tOp (rIxT K) (tVar 0) (tVar 2)) rfl nd (pi_tup (pv 3))
            (blkOk_by (N := nmAL) (sc := relS (retLScope sAllLots 3) (defScope sAllLots)) (by decide +kernel)) (fun _ _ _ _ _ => pg_name (i := 2) nd rfl (.inl rfl)) (fun _ _ _ _ _ => pts_nil)
            (fun _ _ _ _ _ => pe_ix ix_tup (pv 0) (pv 2) (fun _ _ => rfl))))))))), ?_⟩
    refine ⟨few_ok rfl, fun e0 ne0 => ⟨few_ok rfl, fun l0 nl0 => ?_⟩⟩
    have s1 : Same H (upd H e0 (.tup [])) := same_new ne0
    have s2 := same_new (o := HO.lst [.ref e0]) nl0
    have ee0 := s2 _ _ (upd_same (H := H) (a := e0) (o := HO.tup []))
    have el0 := upd_same (H := upd H e0 (.tup [])) (a := l0) (o := HO.lst [.ref e0])
    have s12 := s1.trans s2
    generalize upd (upd H e0 (.tup [])) l0 (.lst [.ref e0]) = H2 at s12 ee0 el0 ⊢
    refine ⟨_, rfl, n, _, rfl, .inr (sqT_same s12 hn), ?_⟩
    rw [List.length_map]
    refine ⟨_, rfl, by omega, by omega, for_range (lo := 0) (n := zs.length) (fun i σ H' => ∃ (fl : Addr) (ts : List V) (u v x y : Option V), σ = [some (.ref n), some (.ref fl), u, v, x, y] ∧ H' fl = some (.lst ts) ∧ Paired (RelI H') ts (rowsN i) ∧ Same H2 H') ?_ ?_ ?_⟩
    · exact ⟨l0, [.ref e0], none, none, none, none, rfl, el0, .cons ⟨e0, rfl, ee0⟩ .nil, .refl _⟩
    · rintro i σ H' hi ⟨fl, ts, u, v, x, y, rfl, ef, pr, ss⟩
      have hi6 : i < 6 := by omega
      have r32 : (rowsN i).length ≤ 32 := by rw [rowsN_len]; exact Nat.le_trans (Nat.pow_le_pow_right (by decide) (show i ≤ 5 by omega)) (by decide)
      obtain ⟨ws, w1, w2, w3⟩ := paired_zip pr
      have wl : ws.length = (rowsN i).length := by rw [← w2, List.length_map]
      have tl : ts.length = (rowsN i).length := paired_len pr
      refine ⟨_, rfl, _, rfl, fl, rfl, ⟨_, SqL.of ef⟩, fun D nD => lc_relQ (walk_list (a := fl) (xs := ts)) nD ws (fun z => z.1) (fun z => z.2 ++ [i]) RelI (fun Ha Hb v b kp h => RelI.keepP kp v b h) w1.symm (by omega) (fun H s => s.seq (SqL.of ef)) ?_ ?_⟩
      · rintro j ⟨zv0, ns⟩ H3 R hz s3 kR
        obtain ⟨t, et, eh⟩ := w3 _ (List.mem_of_getElem? hz)
        dsimp only at et eh
        subst et
        have nm : ns ∈ rowsN i := by rw [← w2]; exact List.mem_map.mpr ⟨_, List.mem_of_getElem? hz, rfl⟩
        have nl : ns.length ≤ 6 := by
          rw [rowsN_eq] at nm
          obtain ⟨c, _, rfl⟩ := List.mem_map.mp nm
          exact Nat.le_trans (rowC_len _ _) (by omega)
        refine ⟨rfl, _, rfl, _, rfl, few_ok rfl, fun q nq => ?_⟩
        have s4 : Same H3 (upd H3 q (.tup [.int (0 + (i : Nat))])) := same_new nq
        have eq := upd_same (H := H3) (a := q) (o := HO.tup [.int (0 + (i : Nat))])
        have em : ((ns ++ [i]).map fun p : Nat => (p : Int)).map V.int = (ns.map fun p : Nat => (p : Int)).map V.int ++ [.int (0 + (i : Nat))] := by
          rw [List.map_append, List.map_append, Int.zero_add]
          rfl
        refine ⟨t, q, _, _, rfl, rfl, SqT.of (s4 _ _ (s3 _ _ eh)), SqT.of eq, by simp, by rw [List.length_map, List.length_map, sizeLine_eq]; show ns.length + 1 ≤ _; omega, fun e => ?_, fun _ p np => ?_⟩
        · refine kR _ _ s4 ⟨q, rfl, ?_⟩
          rw [em, e]
          exact eq
        · refine kR _ _ (s4.trans (same_new np)) ⟨p, rfl, ?_⟩
          rw [em]
          exact upd_same
      · intro H3 ts3 s3 eD pD
        have pE : Paired (RelI H3) ts3 ((rowsN i).map (· ++ [i])) := by
          rw [← w2, List.map_map]
          exact pD
        have tl3 : ts3.length = (rowsN i).length := by rw [paired_len pE, List.length_map]
        refine ⟨fl, D, _, _, rfl, rfl, s3 _ _ ef, eD, by rw [sizeLine_eq]; omega, fun p np => ?_⟩
        have s4 : Same H3 (upd H3 p (.lst (ts ++ ts3))) := same_new np
        refine ⟨p, ts ++ ts3, _, _, _, _, rfl, upd_same, ?_, (ss.trans s3).trans s4⟩
        exact paired_append (Paired.mapP pr fun v r h => RelI.keepP (.of (s3.trans s4)) v r h) (Paired.mapP pE fun v r h => RelI.keepP (.of s4) v r h)
    · rintro σ H' ⟨fl, ts, u, v, x, y, rfl, ef, pr, ss⟩
      have N64 : (rowsN zs.length).length ≤ 64 := by rw [rowsN_len]; exact Nat.pow_le_pow_right (by decide) z6
      obtain ⟨ws, w1, w2, w3⟩ := paired_zip pr
      have wl : ws.length = (rowsN zs.length).length := by rw [← w2, List.length_map]
      refine ⟨_, rfl, fl, rfl, ⟨_, SqL.of ef⟩, fun E1 nE => lc_relQ (walk_list (a := fl) (xs := ts)) nE ws (fun z => z.1) (fun z => z.2) RelPT (fun Ha Hb v b kp h => RelPT.keepP kp v b h) w1.symm (by omega) (fun H s => s.seq (SqL.of ef)) ?_ ?_⟩
      · rintro j ⟨zv0, ns⟩ H3 R hz s3 kR
        obtain ⟨t, et, eh⟩ := w3 _ (List.mem_of_getElem? hz)
        dsimp only at et eh
        subst et
        have eh4 := s3 _ _ eh
        refine ⟨rfl, _, rfl, t, _, rfl, .inr (SqT.of eh4), _, rfl, few_ok rfl, fun q nq => ?_⟩
        rw [List.length_map, List.length_map]
        exact kR _ (.ref q) (same_new nq) ⟨q, t, rfl, upd_same, same_new nq _ _ eh4⟩
      · intro H5 ts2 s5 eE pr2
        rw [w2] at pr2
        classical
        obtain ⟨kN, hkN⟩ : ∃ kN : V → List Nat, kN = fun x => if h : ∃ q : List Nat, RelPT H5 x q then h.choose else [] := ⟨_, rfl⟩
        have kR : ∀ {x : V} {ns : List Nat}, RelPT H5 x ns → kN x = ns := fun {x ns} r => by
          have ex : ∃ q : List Nat, RelPT H5 x q := ⟨_, r⟩
          rw [hkN]
          show (if h : _ then _ else _) = _
          rw [dif_pos ex]
          exact RelPT.inj ex.choose_spec r
        have kmap : ts2.map kN = rowsN zs.length := by
          have := paired_map_eq2 (f := kN) (g := fun ns : List Nat => ns) (fun x ns r => kR r) pr2
          rw [this, List.map_id'']
          exact fun _ => rfl
        have relK : ∀ x ∈ ts2, RelPT H5 x (kN x) := fun x hx => by
          obtain ⟨ns, _, r⟩ := paired_mem2 pr2 x hx
          rw [kR r]
          exact r
        refine ⟨E1, ts2, fun x => (kN x).map fun p : Nat => (p : Int), rfl, SqL.of eE, fun x hx => ?_, fun os p srt perm np => ?_⟩
        · obtain ⟨t, b, e1, e2, e3⟩ := relK x hx
          exact ⟨t, b, e1, by rw [List.length_map]; exact e2, by rw [if_pos rfl]; exact SqT.of e3⟩
        have s6 : Same H5 (upd H5 p (.lst os)) := same_new np
        have ep6 : upd H5 p (.lst os) p = some (.lst os) := upd_same
        generalize upd H5 p (.lst os) = H6 at s6 ep6
        have relO : ∀ x ∈ os, RelPT H6 x (kN x) := fun x hx => RelPT.keepP (.of s6) _ _ (relK x (perm.mem_iff.mp hx))
        have ordP : (os.map kN).Perm (rowsN zs.length) := by
          rw [← kmap]
          exact perm.map kN
        have osl : os.length = (rowsN zs.length).length := by
          have := ordP.length_eq
          rw [List.length_map] at this
          exact this
        have sA : Same H H6 := ((s12.trans ss).trans s5).trans s6
        refine ⟨_, rfl, p, rfl, ⟨_, SqL.of ep6⟩, fun G nG => lc_relQ (walk_list (a := p) (xs := os)) nG os id (fun y => namesAt zs (kN y)) RelT (fun Ha Hb v b kp r => ?_) (by rw [List.map_id]) (by omega) (fun H s => s.seq (SqL.of ep6)) ?_ ?_⟩
        · obtain ⟨t, e1, e2⟩ := r
          exact ⟨t, e1, kp _ _ e2 fun _ z => by cases z⟩
        · intro i y H7 R hy s7 kR2
          obtain ⟨t, b, e1, e2, e3⟩ := relO y (List.mem_of_getElem? hy)
          have mem : ∃ c, kN y = rowC zs.length c := by
            have m := ordP.mem_iff.mp (List.mem_map.mpr ⟨y, List.mem_of_getElem? hy, rfl⟩)
            rw [rowsN_eq] at m
            obtain ⟨c, _, e⟩ := List.mem_map.mp m
            exact ⟨c, e.symm⟩
          have small : ∀ q ∈ kN y, q < zs.length := fun q hq => by
            obtain ⟨c, e⟩ := mem
            rw [e] at hq
            exact rowC_lt hq
          have kl : (kN y).length ≤ 6 := by
            obtain ⟨c, e⟩ := mem
            rw [e]
            exact Nat.le_trans (rowC_len _ _) z6
          have e3' := s7 _ _ e3
          refine ⟨t, _, e1, SqT.of (s7 _ _ e2), rfl, _, _, rfl, _, _, rfl, rfl, rfl, _, rfl, b, rfl, ⟨_, SqT.of e3'⟩, fun E2 nE2 => ?_⟩
          refine lc_fm (walk_tup (a := b) (xs := ((kN y).map fun p : Nat => (p : Int)).map V.int)) ((kN y).map fun p : Nat => (p : Int)) (fun p => some (V.str (zs.getD p.toNat Str.empty))) (by simp only [List.length_map]) (by simp only [List.length_map]; omega) nE2 (fun H s => sqT_same s (SqT.of e3')) ?_ ?_
          · rintro j u q H8 H8' R2 Rn2 hq s8 ⟨rfl, hu⟩ g1 g2
            obtain rfl : V.int q = u := by
              rw [List.getElem?_map, hq] at hu
              exact Option.some.inj hu
            obtain ⟨m, hm, rfl⟩ := List.mem_map.mp (List.mem_of_getElem? hq)
            have ml := small m hm
            have sH8 := (sA.trans s7).trans s8
            refine ⟨rfl, _, rfl, _, rfl, n, zs.map V.str, (m : Int), _, rfl, rfl, sqT_same sH8 hn, atN (i := m) (v := V.str (zs.getD m Str.empty)) ?_, g1 _ _ (by rw [Int.toNat_natCast]) (Same.refl _)⟩
            rw [List.getElem?_map, List.getD_eq_getElem?_getD, List.getElem?_eq_getElem ml]
            rfl
          · intro H8 s8 e8
            rw [fm_at] at e8
            exact .inl ⟨E2, _, rfl, SqL.of e8, fun T nT => kR2 _ _ (s8.trans (same_new nT)) ⟨T, rfl, upd_same⟩⟩
        · intro H9 ts9 s9 eG pr9
          have s09 := sA.trans s9
          refine k G ts9 (os.map fun y => namesAt zs (kN y)) _ s09 (sA.free nG) eG (Paired.mapP pr9 fun v b ⟨t, e1, e2⟩ => ⟨t, e1, e2⟩) ⟨os.map kN, by rw [List.map_map]; rfl, ?_, SrtO.srtd_map srt⟩
          rw [← rowsN_eq]
          exact ordP
end
end K6
set_option Elab.async false
set_option linter.all false
set_option maxRecDepth 100000
set_option maxHeartbeats 1500000
set_option pp.maxSteps 1200
set_option pp.deepTerms false
namespace K6
open PySem PySem.Spec PyProof.Rows L2 Lk
/-! ### one order of all lots -/
theorem lexLt_anti : ∀ {ns ms : List Int}, ns.length = ms.length → HT.lexLt ns ms = false → HT.lexLt ms ns = false → ns = ms
  | [], [], _, _, _ => rfl
  | [], _ :: _, h, _, _ => by cases h
  | _ :: _, [], h, _, _ => by cases h
  | x :: xs, y :: ys, h, h1, h2 => by
    simp only [HT.lexLt] at h1 h2
    by_cases e : x = y
    · subst e
      rw [if_pos rfl] at h1 h2
      rw [lexLt_anti (by simpa using h) h1 h2]
    · rw [if_neg e] at h1
      rw [if_neg (fun z => e z.symm)] at h2
      have g1 := of_decide_eq_false h1
      have g2 := of_decide_eq_false h2
      exact absurd (show x = y by omega) e
theorem ltLen_anti {ns ms : List Int} (h1 : ltLen ns ms = false) (h2 : ltLen ms ns = false) : ns = ms := by
  unfold ltLen at h1 h2
  by_cases e : ns.length = ms.length
  · rw [if_pos e] at h1
    rw [if_pos e.symm] at h2
    exact lexLt_anti e h1 h2
  · rw [if_neg e] at h1
    rw [if_neg (fun z => e z.symm)] at h2
    have g1 := of_decide_eq_false h1
    have g2 := of_decide_eq_false h2
    omega
theorem pw_uniqR {α : Type} {R : α → α → Prop} (anti : ∀ a b, R a b → R b a → a = b) : ∀ {l m : List α}, l.Pairwise R → m.Pairwise R → l.Perm m → l = m
  | [], m, _, _, p => (List.Perm.eq_nil p.symm).symm
  | x :: l, [], _, _, p => absurd p.length_eq (by simp)
  | x :: l, y :: m, hl, hm, p => by
    have e : x = y := by
      rcases List.mem_cons.mp (p.mem_iff.mp (List.mem_cons_self (a := x) (l := l))) with e | hx
      · exact e
      rcases List.mem_cons.mp (p.mem_iff.mpr (List.mem_cons_self (a := y) (l := m))) with e | hy
      · exact e.symm
      exact anti _ _ ((List.pairwise_cons.mp hl).1 y hy) ((List.pairwise_cons.mp hm).1 x hx)
    subst e
    rw [pw_uniqR anti (List.pairwise_cons.mp hl).2 (List.pairwise_cons.mp hm).2 p.cons_inv]
theorem lots_uniq {zs : List Str} {r1 r2 : List (List Str)} (h1 : LotsOk zs r1) (h2 : LotsOk zs r2) : r1 = r2 := by
  obtain ⟨o1, rfl, p1, s1⟩ := h1
  obtain ⟨o2, rfl, p2, s2⟩ := h2
  have : o1 = o2 := pw_uniqR (R := fun x y : List Nat => ltLen (y.map fun p : Nat => (p : Int)) (x.map fun p : Nat => (p : Int)) = false) (fun a b h g => by
    have := ltLen_anti g h
    exact (List.map_inj_right (fun _ _ e => Int.ofNat.inj e)).mp this) s1 s2 (p1.trans p2.symm)
  rw [this]
theorem lots_64 {zs : List Str} {rws : List (List Str)} (h : LotsOk zs rws) (l6 : zs.length ≤ 6) : rws.length ≤ 64 := by
  obtain ⟨o, rfl, p, _⟩ := h
  rw [List.length_map, p.length_eq, List.length_map, List.length_range]
  exact Nat.pow_le_pow_right (by decide) l6
theorem lots_sub {zs : List Str} {rws : List (List Str)} (h : LotsOk zs rws) : ∀ r ∈ rws, r.Sublist zs := fun r hr => by
  obtain ⟨o, rfl, p, _⟩ := h
  obtain ⟨q, hq, rfl⟩ := List.mem_map.mp hr
  obtain ⟨c, _, rfl⟩ := List.mem_map.mp (p.mem_iff.mp hq)
  exact namesAt_sub zs _ c rfl
/-! ### any values, told once -/
def VdV (K : PySem.W.Frag) (as : List Addr) (H : Hp) (v : V) : Prop := ∃ d, VD K (hid as H) v d
theorem hid_addG {a F : Addr} {as : List Addr} {H H' : Hp} (ha : a ∈ as) (nF : H F = none) (x : ExtP a H H') : Same (hid as H) (hid (F :: as) H') := fun b o e => by
  have nb : b ∉ as := fun hb => by unfold hid at e; rw [if_pos hb] at e; cases e
  rw [hid_ne nb] at e
  have bF : b ≠ F := fun z => by rw [z, nF] at e; cases e
  rw [hid_ne (fun h => (List.mem_cons.mp h).elim bF nb)]
  exact x b o (fun z => nb (by rw [z]; exact ha)) e
section
variable {K : PySem.W.Frag} {a : Addr} {as : List Addr} {σ : L2.St} {H : Hp} {c k m n : Nat}
theorem VdV.ext {H' : Hp} {v : V} (h : VdV K as H v) (ha : a ∈ as) (x : ExtP a H H') : VdV K as H' v := let ⟨d, h⟩ := h; ⟨d, h.same (hid_ext ha x)⟩
theorem VdV.weak {F : Addr} {v : V} (h : VdV K (F :: as) H v) : VdV K as H v := let ⟨d, h⟩ := h; ⟨d, h.same hid_weak⟩
theorem VdV.plain {v : V} (h : VdV K as H v) : ∃ d, VD K H v d := let ⟨d, h⟩ := h; ⟨d, h.same hid_sub⟩
theorem vd_of {te : TE} (t : Gd K a as (GdV K as c k) n te σ H) (hc : c ≤ 100000) (hk : k ≤ 30) : Gd K a as (VdV K as) n te σ H := fun H1 N x p hN Q hQ => t H1 N x p hN Q fun v H2 x2 p2 ⟨d, h1, h2⟩ => hQ v H2 x2 p2 ⟨d, .inl ⟨h1, h2.mono hc hk⟩⟩
theorem vd_odd {i : Nat} (h0 : σ[i]? = some (some (.ref a))) : Gd K a as (VdV K as) 1 (tCall spOdd [] E0 (tCons (tVar i) tNil)) σ H := fun H1 N x p hN Q hQ =>
  ⟨_, h0, a, N, rfl, p.pot, by omega, fun v d H2 hd x2 p2 dw => hQ v H2 x2 (p.ext x2 p2) (odd_vd p.ne hd dw)⟩
theorem vd_bent {i j : Nat} {v : V} {d : PyData} (h0 : σ[i]? = some (some (.ref a))) (h1 : σ[j]? = some (some v)) (hd : Dp K (hid as H) v d) (bn : Bn 3 d) : Gd K a as (VdV K as) 6 (tCall (spBent K 3) [] E0 (tCons (tVar i) (tCons (tVar j) tNil))) σ H := fun H1 N x p hN Q hQ =>
  ⟨_, h0, _, h1, a, as, v, d, N, rfl, p, by omega, by decide, dp_ext p.mem hd x, bn, fun u e H2 x2 p2 db nb => hQ u H2 x2 p2 ⟨e, .inl ⟨db, nb.mono (by decide) (by decide)⟩⟩⟩
def VdA (K : PySem.W.Frag) (a : Addr) (as : List Addr) (m n : Nat) (ta : TA) (σ : L2.St) (H : Hp) : Prop :=
  ∀ H1 N, ExtP a H H1 → PotA a as N H1 → N + n ≤ 50000 → ∀ Q : List V → Hp → Prop, (∀ vs H2, ExtP a H1 H2 → PotA a as (N + n) H2 → vs.length = m → (∀ v ∈ vs, VdV K as H2 v) → Q vs H2) → ta σ H1 Q
theorem vda_nil : VdA K a as 0 0 tNil σ H := fun H1 N x p _ Q hQ => hQ _ _ (.refl _ _) p rfl fun v h => by cases h
theorem vda_cons {n1 n2 : Nat} {te : TE} {ta : TA} (h : Gd K a as (VdV K as) n1 te σ H) (t : VdA K a as m n2 ta σ H) : VdA K a as (m + 1) (n1 + n2) (tCons te ta) σ H := fun H1 N x p hN Q hQ =>
  h H1 N x p (by omega) _ fun v H2 x2 p2 g2 => t H2 (N + n1) (x.trans x2) p2 (by omega) _ fun vs H3 x3 p3 l3 g3 =>
    hQ _ _ (x2.trans x3) (by rw [← Nat.add_assoc]; exact p3) (by rw [List.length_cons, l3]) fun u hu => by
      rcases List.mem_cons.mp hu with rfl | hu
      · exact g2.ext p3.mem x3
      · exact g3 u hu
/-- a list of m such values, which do not hold it -/
def LsV (K : PySem.W.Frag) (as : List Addr) (m : Nat) (H : Hp) (v : V) : Prop := ∃ l vs, v = .ref l ∧ l ∉ as ∧ H l = some (.lst vs) ∧ vs.length = m ∧ ∀ x ∈ vs, VdV K (l :: as) H x
theorem VdV.new {l : Addr} {o : HO} {v : V} (h : VdV K as H v) (p : PotA a as n H) (nl : H l = none) : VdV K (l :: as) (upd H l o) v := let ⟨d, h⟩ := h; ⟨d, h.same (hid_addG p.mem nl (.of (same_new nl)))⟩
theorem LsV.ext {H' : Hp} {v : V} (h : LsV K as m H v) (ha : a ∈ as) (x : ExtP a H H') : LsV K as m H' v := by
  obtain ⟨l, vs, rfl, nl, el, hl, g⟩ := h
  exact ⟨l, vs, rfl, nl, x _ _ (fun z => nl (by rw [z]; exact ha)) el, hl, fun y hy => (g y hy).ext (List.mem_cons_of_mem _ ha) x⟩
theorem ls_disp {ta : TA} (t : VdA K a as m n ta σ H) (hm : m ≤ 1000) : Gd K a as (LsV K as m) n (tLst ta) σ H := fun H1 N x p hN Q hQ =>
  t H1 N x p hN _ fun vs H2 x2 p2 e g => ⟨by rw [sizeLine_eq]; omega, fun l nl => hQ _ _ (x2.trans (.of (same_new nl))) (p2.same (same_new nl)) ⟨l, vs, rfl, ne_fresh p2.ne nl, upd_same, e, fun v hv => (g v hv).new p2 nl⟩⟩
theorem ls_var {i : Nat} {v : V} (hσ : σ[i]? = some (some v)) (g : LsV K as m H v) : Gd K a as (LsV K as m) 0 (tVar i) σ H := fun H1 N x p _ Q hQ => ⟨v, hσ, hQ _ _ (.refl _ _) p (g.ext p.mem x)⟩
theorem ls_cat {m1 m2 n1 n2 : Nat} {t1 t2 : TE} (h1 : Gd K a as (LsV K as m1) n1 t1 σ H) (h2 : Gd K a as (LsV K as m2) n2 t2 σ H) (hm : m1 + m2 ≤ 1000) : Gd K a as (LsV K as (m1 + m2)) (n1 + n2) (tOp rCat t1 t2) σ H := fun H1 N x p hN Q hQ =>
  h1 H1 N x p (by omega) _ fun v H2 x2 p2 g2 => h2 H2 (N + n1) (x.trans x2) p2 (by omega) _ fun u H3 x3 p3 g3 => by
    obtain ⟨l1, vs1, rfl, nl1, e1, len1, f1⟩ := g2.ext p2.mem x3
    obtain ⟨l2, vs2, rfl, nl2, e2, len2, f2⟩ := g3
    refine ⟨l1, l2, vs1, vs2, rfl, rfl, e1, e2, by rw [sizeLine_eq]; omega, fun q nq => hQ _ _ ((x2.trans x3).trans (.of (same_new nq))) (by rw [← Nat.add_assoc]; exact p3.same (same_new nq)) ⟨q, vs1 ++ vs2, rfl, ne_fresh p3.ne nq, upd_same, by rw [List.length_append, len1, len2], fun y hy => ?_⟩⟩
    exact (List.mem_append.mp hy).elim (fun h => (f1 y h).weak.new p3 nq) fun h => (f2 y h).weak.new p3 nq
/-- a list of the values of a term, for a name that walks -/
theorem ls_walk {J : It} {G : Hp → Prop} {Y : Nat → Hp → V → Hp → Prop} {n0 i N : Nat} {te : TE} {Q : VK} (w : Walk J m G Y) (Pv : V → Prop) (hm : m ≤ 1000) (p : PotA a as N H) (hN : N + m * n0 ≤ 50000) (hG : ∀ H', ExtP a H H' → G H') (hY : ∀ q H' x H'', ExtP a H H' → Y q H' x H'' → H'' = H' ∧ Pv x)
    (hE : ∀ D v H0, H D = none → Pv v → ExtP a H H0 → Gd K a (D :: as) (VdV K (D :: as)) n0 te ((wipe σ [i]).set i (some v)) H0) (wi : ∀ v, wipe ((wipe σ [i]).set i (some v)) [i] = wipe σ [i])
    (hQ : ∀ (D : Addr) (H' : Hp), ExtP a H H' → PotA a as (N + m * n0) H' → LsV K as m H' (.ref D) → Q (.ref D) H') : LcR J (gName i) tYes te [i] σ H Q := fun D nD => by
  have Da : D ≠ a := p.nea nD
  refine lc_it w (fun q Hq => ∃ ts : List V, Hq D = some (.lst ts) ∧ ts.length = q ∧ (∀ v ∈ ts, VdV K (D :: as) Hq v) ∧ PotA a (D :: as) (N + q * n0) Hq ∧ ExtP a H Hq) ?_ (fun q Hq _ ⟨_, _, _, _, _, xa⟩ => hG Hq xa) ?_ ?_
  · refine ⟨[], upd_same, rfl, (fun v hv => by cases hv), ⟨(p.same (same_new nD)).pot.mono (by omega), fun b hb => ?_, List.mem_cons_of_mem _ p.mem⟩, .of (same_new nD)⟩
    rcases List.mem_cons.mp hb with rfl | hb
    · rw [upd_same]
      exact fun z => by cases z
    · exact (p.same (same_new nD)).ne b hb
  · rintro q y Ha Ha' hq ⟨ts, eD, tl, gt, pa', xa⟩ hy
    obtain ⟨rfl, py⟩ := hY q Ha y Ha' xa hy
    have qm : q * n0 + n0 ≤ m * n0 := by
      have := Nat.mul_le_mul_right n0 (show q + 1 ≤ m from hq)
      rw [Nat.succ_mul] at this
      exact this
    refine ⟨wi y, ?_⟩
    unfold tYes
    refine iteT ?_
    refine hE D y _ nD py xa _ _ (.refl _ _) pa' (by omega) _ fun u Hb xb pb gu => ?_
    have eDb := xb _ _ Da eD
    refine ⟨ts, eDb, by rw [sizeLine_eq]; omega, ts ++ [u], upd_same, by simp [tl], fun v hv => ?_, ⟨?_, fun b hb e => ?_, pb.mem⟩, fun b o ba e => ?_⟩
    · have hm : D ∈ D :: as := List.mem_cons_self
      have : VdV K (D :: as) Hb v := (List.mem_append.mp hv).elim (fun h => (gt v h).ext pa'.mem xb) fun h => by rw [List.mem_singleton.mp h]; exact gu
      obtain ⟨d, h1⟩ := this
      exact ⟨d, h1.same (hid_upd hm)⟩
    · obtain ⟨o, b, c, e, r⟩ := pb.pot.mono (show N + q * n0 + n0 ≤ N + (q + 1) * n0 by rw [Nat.succ_mul]; omega)
      exact ⟨o, b, c, by rw [upd_ne Da.symm]; exact e, r⟩
    · by_cases z : b = D
      · subst z
        rw [upd_same] at e
        cases e
      · rw [upd_ne z] at e
        exact pb.ne b hb e
    · rw [upd_ne (ne_of_none e nD)]
      exact xb _ _ ba (xa _ _ ba e)
  rintro Ha ⟨ts, eD, tl, gt, pa', xa⟩
  exact hQ D Ha xa ⟨pa'.pot, fun b hb => pa'.ne b (List.mem_cons_of_mem _ hb), p.mem⟩ ⟨D, ts, rfl, ne_fresh p.ne nD, eD, tl, gt⟩
theorem ls_range {n0 i : Nat} {j : Int} {te : TE} (hj : j = (m : Int)) (hm : m ≤ 1000) (hE : ∀ D v H0, H D = none → ExtP a H H0 → Gd K a (D :: as) (VdV K (D :: as)) n0 te ((wipe σ [i]).set i (some v)) H0) (wi : ∀ v, wipe ((wipe σ [i]).set i (some v)) [i] = wipe σ [i]) (ha : H a ≠ none) :
    Gd K a as (LsV K as m) (m * n0) (tLc (iRng1 (tCons (tC (.int j)) tNil)) (gName i) tYes te [i]) σ H := fun H1 N x p hN Q hQ => by
  subst hj
  refine ⟨(m : Int), rfl, by omega, by omega, ?_⟩
  refine ls_walk (walk_range (n := m)) (fun _ => True) hm p hN (fun _ _ => trivial) (fun q H' y H'' _ hy => by obtain ⟨rfl, _⟩ := hy; exact ⟨rfl, trivial⟩) (fun D v H0 nD _ x0 => hE D v H0 ?_ (x.trans x0)) wi fun D H' x' p' g => hQ _ _ x' p' g
  cases z : H D with
  | none => rfl
  | some o => rw [x _ _ (p.nea nD) z] at nD; cases nD
theorem ls_tup {n0 i : Nat} {xs : List V} {ta : TA} {te : TE} (hta : ∀ H1 Q, Q xs H1 → ta σ H1 Q) (hm : xs.length = m) (m1 : m ≤ 1000) (hE : ∀ D v H0, v ∈ xs → H D = none → ExtP a H H0 → Gd K a (D :: as) (VdV K (D :: as)) n0 te ((wipe σ [i]).set i (some v)) H0) (wi : ∀ v, wipe ((wipe σ [i]).set i (some v)) [i] = wipe σ [i]) :
    Gd K a as (LsV K as m) (m * n0) (tLc (iTup K (tTup ta)) (gName i) tYes te [i]) σ H := fun H1 N x p hN Q hQ => by
  subst hm
  refine hta _ _ ⟨by rw [sizeLine_eq]; omega, fun T nT => ⟨T, rfl, ⟨xs, SqT.of upd_same⟩, ?_⟩⟩
  have s2 : Same H1 (upd H1 T (.tup xs)) := same_new nT
  have eT : upd H1 T (.tup xs) T = some (.tup xs) := upd_same
  have Ta : T ≠ a := p.nea nT
  generalize upd H1 T (.tup xs) = H2 at s2 eT ⊢
  refine ls_walk (walk_tup (a := T) (xs := xs)) (fun v => v ∈ xs) m1 (p.same s2) hN (fun H' x' => SqT.of (x' _ _ Ta eT)) (fun q H' y H'' _ hy => by obtain ⟨rfl, hy⟩ := hy; exact ⟨rfl, List.mem_of_getElem? hy⟩) (fun D v H0 nD hv x0 => hE D v H0 hv ?_ (x.trans ((ExtP.of s2).trans x0))) wi fun D H' x' p' g => hQ _ _ ((ExtP.of s2).trans x') p' g
  cases z : H D with
  | none => rfl
  | some o => rw [s2 _ _ (x _ _ ((p.same s2).nea nD) z)] at nD; cases nD
/-- found = [..] -/
theorem vset_seq {te : TE} {N i : Nat} {u : TS} {D : Ends} (hA : Gd K a as (LsV K as m) n te σ H) (hp : PotA a as N H) (hN : N + n ≤ 50000)
    (hQ : ∀ vs F H', ExtP a H H' → PotA a as (N + n) H' → F ∉ as → H' F = some (.lst vs) → vs.length = m → (∀ v ∈ vs, VdV K (F :: as) H' v) → u D (σ.set i (some (.ref F))) H') : tSeq (tAsg te (gName i)) u D σ H := by
  refine hA H N (.refl _ _) hp hN _ fun v H2 x2 p2 g => ?_
  obtain ⟨l, vs, rfl, nl, el, hl, g⟩ := g
  exact hQ vs l H2 x2 p2 nl el hl g
/-- found.extend(..) -/
theorem vext_seq {F : Addr} {xs : List V} {te : TE} {N i : Nat} {u : TS} {D : Ends} (hA : Gd K a as (LsV K as m) n te σ H) (hp : PotA a as N H) (hN : N + n ≤ 50000) (hm : m ≤ 1000) (hσ : σ[i]? = some (some (.ref F))) (Fa : F ≠ a) (hF : F ∈ as) (eF : H F = some (.lst xs)) (xl : xs.length ≤ 1000)
    (g : ∀ x ∈ xs, VdV K as H x) (hQ : ∀ vs H', (∀ b o, b ≠ a → b ≠ F → H b = some o → H' b = some o) → PotA a as (N + n) H' → H' F = some (.lst (xs ++ vs)) → vs.length = m → (∀ x ∈ xs ++ vs, VdV K as H' x) → u D σ H') :
    tSeq (tDrop (tBM K "list" rExtend (tVar i) (tCons te tNil))) u D σ H := by
  refine ⟨_, hσ, .inl ⟨rfl, _, SqL.of eF⟩, ?_⟩
  refine hA H N (.refl _ _) hp hN _ fun v H2 x2 p2 gd => ?_
  obtain ⟨l, vs, rfl, nl, el, vl, g2⟩ := gd
  have eF2 := x2 _ _ Fa eF
  refine ⟨F, l, xs, vs, rfl, rfl, eF2, el, by rw [sizeLine_eq]; omega, hQ vs _ (fun b o ba bF e => ?_) ⟨?_, fun b hb e => ?_, p2.mem⟩ upd_same vl fun v hv => ?_⟩
  · rw [upd_ne bF]
    exact x2 _ _ ba e
  · obtain ⟨o, b, c, e, r⟩ := p2.pot
    exact ⟨o, b, c, by rw [upd_ne Fa.symm]; exact e, r⟩
  · by_cases z : b = F
    · subst z
      rw [upd_same] at e
      cases e
    · rw [upd_ne z] at e
      exact p2.ne b hb e
  · have : VdV K as H2 v := (List.mem_append.mp hv).elim (fun h => (g v h).ext hp.mem x2) fun h => (g2 v h).weak
    obtain ⟨d, h1⟩ := this
    exact ⟨d, h1.same (hid_upd hF)⟩
end
end K6
set_option Elab.async false
set_option linter.all false
set_option maxRecDepth 100000
set_option maxHeartbeats 1500000
set_option pp.maxSteps 1200
set_option pp.deepTerms false
namespace K6
open PySem PySem.Spec PyProof.Rows L2 Lk
section
variable {K : PySem.W.Frag} {a : Addr} {as : List Addr} {σ : L2.St} {H : Hp} {c k m n : Nat}
/-- found = [..], the list is new -/
theorem vset_new {ta : TA} {N i : Nat} {u : TS} {D : Ends} (t : VdA K a as m n ta σ H) (hm : m ≤ 1000) (hp : PotA a as N H) (hN : N + n ≤ 50000)
    (hQ : ∀ vs F H', ExtP a H H' → PotA a as (N + n) H' → H F = none → F ∉ as → H' F = some (.lst vs) → vs.length = m → (∀ v ∈ vs, VdV K (F :: as) H' v) → u D (σ.set i (some (.ref F))) H') : tSeq (tAsg (tLst ta) (gName i)) u D σ H := by
  refine t H N (.refl _ _) hp hN _ fun vs H2 x2 p2 e g => ⟨by rw [sizeLine_eq]; omega, fun l nl => ?_⟩
  refine hQ vs l _ (x2.trans (.of (same_new nl))) (p2.same (same_new nl)) ?_ (ne_fresh p2.ne nl) upd_same e fun v hv => (g v hv).new p2 nl
  cases z : H l with
  | none => rfl
  | some o => rw [x2 _ _ (p2.nea nl) z] at nl; cases nl
/-- found = (..), the tuple is new -/
theorem vset_tup {ta : TA} {N i : Nat} {u : TS} {D : Ends} (t : VdA K a as m n ta σ H) (hm : m ≤ 1000) (hp : PotA a as N H) (hN : N + n ≤ 50000)
    (hQ : ∀ vs F H', ExtP a H H' → PotA a as (N + n) H' → F ≠ a → H' F = some (.tup vs) → vs.length = m → (∀ v ∈ vs, VdV K as H' v) → u D (σ.set i (some (.ref F))) H') : tSeq (tAsg (tTup ta) (gName i)) u D σ H := by
  refine t H N (.refl _ _) hp hN _ fun vs H2 x2 p2 e g => ⟨by rw [sizeLine_eq]; omega, fun l nl => ?_⟩
  exact hQ vs l _ (x2.trans (.of (same_new nl))) (p2.same (same_new nl)) (p2.nea nl) upd_same e fun v hv => (g v hv).ext p2.mem (.of (same_new nl))
theorem sqT_hid {H : Hp} {q : Addr} {xs : List V} (h : SqT K H q xs) (n : q ∉ as) : SqT K (hid as H) q xs := by
  rcases h with (h | ⟨o, h⟩) | h
  · exact .inl (.inl (by rw [hid_ne n]; exact h))
  · exact .inl (.inr ⟨o, by rw [hid_ne n]; exact h⟩)
  · exact .inr h
theorem dp_addG {D : Addr} {H' : Hp} {v : V} {d : PyData} (ha : a ∈ as) (nD : H D = none) (x : ExtP a H H') (h : Dp K (hid as H) v d) : Dp K (hid (D :: as) H') v d := Dp.same (hid_addG ha nD x) h
theorem gt_addG {D : Addr} {H' : Hp} {v : V} (ha : a ∈ as) (nD : H D = none) (x : ExtP a H H') (h : GtV K as c k m H v) : GtV K (D :: as) c k m H' v := let ⟨q, ds, e, h1, h2⟩ := h; ⟨q, ds, e, dp_addG ha nD x h1, h2⟩
theorem gt_names {q : Addr} {fs : List Str} (h : Dp K (hid as H) (.ref q) (.tuple (strsD fs))) (ok : ∀ z ∈ fs, PyData.strOk z = true ∧ z.length ≤ 8) (l6 : fs.length ≤ 6) : GtV K as 12 0 6 H (.ref q) :=
  ⟨q, strsD fs, rfl, h, by unfold strsD; rw [List.length_map]; exact l6, fun d hd => by
    obtain ⟨z, hz, rfl⟩ := List.mem_map.mp hd
    exact (Nice.str (ok z hz).1 (ok z hz).2).mono (by decide) (by decide)⟩
theorem gt_vd {te : TE} (t : Gd K a as (GtV K as 12 0 m) n te σ H) (hm : m ≤ 30) : Gd K a as (VdV K as) n te σ H := vd_of (gt_gd (c' := 400) (k' := 1) t (by omega) (by decide)) (by decide) (by decide)
theorem gd_int0 : Gd K a as (GdV K as 8 0) 0 (tC (.int 0)) σ H := fun H1 N x p _ Q hQ => hQ _ _ (.refl _ _) p ⟨_, .int 0, ⟨by decide +kernel, by decide +kernel, by decide +kernel, by decide +kernel, by decide +kernel⟩⟩
theorem bn_names {fs : List Str} (asc : ∀ z ∈ fs, ascB z ∧ z.length ≤ 8) (l6 : fs.length ≤ 6) : Bn 3 (.tuple (strsD fs)) := .inr ⟨_, rfl, by unfold strsD; rw [List.length_map]; exact l6, fun e he => by
  obtain ⟨z, hz, rfl⟩ := List.mem_map.mp he
  exact .inl ⟨z, rfl, (asc z hz).1, (asc z hz).2⟩⟩
theorem potA_cons {F : Addr} {N : Nat} {xs : List V} (p : PotA a as N H) (e : H F = some (.lst xs)) : PotA a (F :: as) N H := ⟨p.pot, fun b hb => by
  rcases List.mem_cons.mp hb with rfl | hb
  · rw [e]
    exact fun z => by cases z
  · exact p.ne b hb, List.mem_cons_of_mem _ p.mem⟩
theorem potA_tail {F : Addr} {N : Nat} (p : PotA a (F :: as) N H) (ha : a ∈ as) : PotA a as N H := ⟨p.pot, fun b hb => p.ne b (List.mem_cons_of_mem _ hb), ha⟩
end
/-! ### a circle beside any other value -/
def plainTys : List String := ["NoneType", "bool", "int", "str", "list", "tuple", "dict"]
/-- no such value is a circle -/
structure NoC (K : PySem.W.Frag) (C : Addr) : Prop where
  kit : ∀ t ∈ plainTys, PySem.W.kitOne K (.type t) (.ref C) = some false
  fst : ∀ t ∈ plainTys, PySem.W.notFirst K C (.type t) = true
theorem vd_ty {K : PySem.W.Frag} {H : Hp} {v : V} {d : PyData} (h : VD K H v d) : ∃ t ∈ plainTys, TyX K H v (.type t) := by
  rcases h with ⟨h, _⟩ | ⟨a, ks, ps, rfl, h, rfl, _⟩
  · cases h with
    | non => exact ⟨"NoneType", by decide, .base .non⟩
    | bl b => exact ⟨"bool", by decide, .base (.bl b)⟩
    | int i => exact ⟨"int", by decide, .base (.int i)⟩
    | str x => exact ⟨"str", by decide, .base (.str x)⟩
    | lst hs _ => exact ⟨"list", by decide, sqL_ty hs⟩
    | tup hs _ => exact ⟨"tuple", by decide, sqT_ty hs⟩
  · exact ⟨"dict", by decide, .base (.dK h)⟩
section
variable {P : Program} {w : World} {K : PySem.W.Frag} {mg : Str → Option Value} {base : Heap} {f : Addr} {fd : FuncData}
/-! ### Circle.__contains__ -/
def spCircIn (K : PySem.W.Frag) (C : Addr) : Sp := fun vs H Q _ => ∃ (c : Addr) (ns : List Str) (z : Str), vs = [.ref c, .str z] ∧ CircAt K H C c ns ∧ Q (.bl (decide (z ∈ ns))) H
theorem scCircIn : FnScope ["self", "value"] ["self", "value"] (defScope sCircIn) := ⟨rfl, rfl, rfl, by decide +kernel, rfl, by decide +kernel, by decide +kernel⟩
theorem ok_circIn {C fC : Addr} (F : Fun K "__contains__" "Circle.__contains__" sCircIn f fd) (CC : CircC K C fC) : FnOk P w K mg base CX0 1 f fd ["self", "value"] (spCircIn K C) := by
  refine F.ok scCircIn (fun vs H Q E h => ?_) (fun cdv A outer s H vs Q E hr h => ?_)
  · obtain ⟨c, ns, z, rfl, _⟩ := h
    rfl
  · obtain ⟨c, ns, z, rfl, ⟨cdx, nm, ec, en⟩, k⟩ := h
    refine ⟨_, pss_one (ps_ret (pe_cmpR op_in_seq (pv 1) (pe_fld (pv 0) rfl) rfl)), ?_⟩
    refine ⟨_, rfl, _, rfl, c, C, cdx, _, .ref nm, rfl, ec, CC.cls, CC.nm, rfl, nm, _, rfl, .inr en.sq, rfl, flat_strs _, ?_⟩
    rw [if_neg (by decide), strs_inV]
    exact k
end
end K6
set_option Elab.async false
set_option linter.all false
set_option maxRecDepth 100000
set_option maxHeartbeats 4000000
set_option pp.maxSteps 1200
set_option pp.deepTerms false
namespace K6
open PySem PySem.Spec PyProof.Rows L2 Lk
abbrev sRight : Stmt := top 36
/-! ### the draws and tables change -/
def ExtPN (a : Addr) (H H' : Hp) : Prop := ∀ b o, b ≠ a → H b = some o → (∀ ps, o ≠ .tbl ps) → H' b = some o
theorem ExtPN.of {a : Addr} {H H' : Hp} (x : ExtP a H H') : ExtPN a H H' := fun b o n q _ => x b o n q
theorem ExtPN.ofN {a : Addr} {H H' : Hp} (x : LamX.ExtN H H') : ExtPN a H H' := fun b o _ q n => x b o q n
theorem ExtPN.refl (a : Addr) (H : Hp) : ExtPN a H H := fun _ _ _ q _ => q
theorem ExtPN.trans {a : Addr} {H H1 H2 : Hp} (x : ExtPN a H H1) (y : ExtPN a H1 H2) : ExtPN a H H2 := fun b o n q m => y b o n (x b o n q m) m
theorem ExtPN.keep {a : Addr} {N : Nat} {H H' : Hp} (hp : PotAt a N H) (x : ExtPN a H H') : Keep H H' := fun b o q n => x b o (fun z => by
  obtain ⟨_, _, _, h, _⟩ := hp
  rw [z, h] at q
  cases q
  exact n () (.lst _)) q fun ps z => by
    subst z
    exact n () (.tbl _)
theorem PotAt.extN {a : Addr} {N : Nat} {H H' : Hp} (hp : PotAt a N H) (x : LamX.ExtN H H') : PotAt a N H' := by
  obtain ⟨o, b, c, e, r⟩ := hp
  exact ⟨o, b, c, x _ _ e (fun _ z => by cases z), r⟩
theorem tabs_extP {T : List (Addr × Str)} {a : Addr} {N : Nat} {H H' : Hp} (hp : PotAt a N H) (t : LamX.Tabs T H) (x : ExtP a H H') : LamX.Tabs T H' := by
  obtain ⟨o, b, c, e, _⟩ := hp
  exact tabs_but t e x
/-! ### pieces of names -/
def cutL {α : Type} (fs : List α) (lo hi : Option Int) : List α := (fs.drop (HT.sIx fs.length 0 lo)).take (HT.sIx fs.length fs.length hi - HT.sIx fs.length 0 lo)
theorem slice_str {K : PySem.W.Frag} {q : Addr} {H : Hp} {fs : List Str} {lo hi : Option Int} {Q : VK} (h : SqT K H q (fs.map V.str)) (k : ∀ p H', Same H H' → SqT K H' p ((cutL fs lo hi).map V.str) → Q (.ref p) H') : rSlA K (.ref q) lo hi H Q := by
  refine ⟨q, _, rfl, h, fun w => k q H (Same.refl _) ?_, fun _ p np => k p _ (same_new np) ?_⟩
  · rw [List.length_map] at w
    unfold cutL
    rw [w.1, w.2, List.drop_zero, Nat.sub_zero, List.take_length]
    exact h
  · have e : (cutL fs lo hi).map V.str = cutV (fs.map V.str) lo hi := by
      unfold cutL cutV
      rw [List.map_take, List.map_drop, List.length_map]
    rw [e]
    exact SqT.of upd_same
theorem cat_str {K : PySem.W.Frag} {q r : Addr} {H : Hp} {fs gs : List Str} {Q : VK} (h : SqT K H q (fs.map V.str)) (g : SqT K H r (gs.map V.str)) (hl : fs.length + gs.length ≤ 10000) (k : ∀ p H', Same H H' → SqT K H' p ((fs ++ gs).map V.str) → Q (.ref p) H') : rCatA K (.ref q) (.ref r) H Q := by
  refine ⟨q, r, _, _, rfl, rfl, h, g, by rw [List.length_map, List.length_map, sizeLine_eq]; omega, fun e => ?_, fun _ e => ?_, fun _ _ p np => k p _ (same_new np) (by rw [List.map_append]; exact SqT.of upd_same)⟩
  · have : fs = [] := List.map_eq_nil_iff.mp e
    subst this
    exact k r H (Same.refl _) g
  · have : gs = [] := List.map_eq_nil_iff.mp e
    subst this
    exact k q H (Same.refl _) (by rw [List.append_nil]; exact h)
/-- names of a circle near to this one -/
structure FarOk (ns fs : List Str) : Prop where
  nd : fs.Nodup
  k2 : 2 ≤ fs.length
  k6 : fs.length ≤ 6
  sub : ∀ z ∈ fs, z ∈ ns
theorem far_self {ns : List Str} (nd : ns.Nodup) (k2 : 2 ≤ ns.length) (k6 : ns.length ≤ 6) : FarOk ns ns := ⟨nd, k2, k6, fun _ h => h⟩
theorem far_perm {ns fs : List Str} (h : FarOk ns ns) (p : fs.Perm ns) : FarOk ns fs := ⟨p.nodup_iff.mpr h.nd, by rw [p.length_eq]; exact h.k2, by rw [p.length_eq]; exact h.k6, fun z hz => p.mem_iff.mp hz⟩
theorem sIx1 {n d : Nat} (h : 1 ≤ n) : HT.sIx n d (some 1) = 1 := by
  have := HT.sIx_nat n d 1
  rw [show ((1 : Nat) : Int) = 1 from rfl] at this
  omega
theorem sIx2 {n d : Nat} (h : 2 ≤ n) : HT.sIx n d (some 2) = 2 := by
  have := HT.sIx_nat n d 2
  rw [show ((2 : Nat) : Int) = 2 from rfl] at this
  omega
theorem cut_turn {ns : List Str} (h : 2 ≤ ns.length) : (cutL ns (some 1) none ++ cutL ns none (some 1)).Perm ns := by
  unfold cutL
  rw [sIx1 (by omega), HT.sIx_none, HT.sIx_none, sIx1 (by omega), List.drop_zero, Nat.sub_zero, List.take_of_length_le (by rw [List.length_drop]; exact Nat.le_refl _)]
  exact List.perm_append_comm.trans (by rw [List.take_append_drop])
theorem far_two {ns : List Str} (h : FarOk ns ns) : FarOk ns (cutL ns none (some 2)) := by
  unfold cutL
  rw [HT.sIx_none, sIx2 h.k2, List.drop_zero, Nat.sub_zero]
  have := h.k2
  exact ⟨h.nd.sublist (List.take_sublist _ _), by rw [List.length_take]; omega, by rw [List.length_take]; omega, fun z hz => List.mem_of_mem_take hz⟩
theorem nice_small {n : Nat} (h : n ≤ 6) : Nice 8 0 (.int (n : Int)) := by
  have e : n = 0 ∨ n = 1 ∨ n = 2 ∨ n = 3 ∨ n = 4 ∨ n = 5 ∨ n = 6 := by omega
  rcases e with rfl | rfl | rfl | rfl | rfl | rfl | rfl <;> exact ⟨by decide +kernel, by decide +kernel, by decide +kernel, by decide +kernel, by decide +kernel⟩
theorem rows_dp {K : PySem.W.Frag} {H : Hp} : ∀ {ts : List V} {rws : List (List Str)}, Paired (RelT H) ts rws → DpAll K H ts (rws.map fun r => .tuple (strsD r))
  | _, _, .nil => .nil
  | _, _, .cons (b := b) h t => by
    obtain ⟨q, rfl, e⟩ := h
    exact .cons (.tup (SqT.of e) (dp_strs _)) (rows_dp t)
theorem relT_same {H H' : Hp} (s : Same H H') {ts : List V} {rws : List (List Str)} (p : Paired (RelT H) ts rws) : Paired (RelT H') ts rws := Paired.mapP p fun v r ⟨t, e1, e2⟩ => ⟨t, e1, s _ _ e2⟩
theorem pool_facts {z : Str} (h : z ∈ namePool) : ascB z ∧ z.length ≤ 8 ∧ z ≠ "nobody" := by
  have e : (namePool.all fun z => z.cps.toList.all (fun c => decide (c < 128)) && (decide (z.length ≤ 8) && decide (z ≠ "nobody"))) = true := by decide +kernel
  have := List.all_eq_true.mp e z h
  rw [Bool.and_eq_true, Bool.and_eq_true, decide_eq_true_eq, decide_eq_true_eq] at this
  exact ⟨fun c hc => of_decide_eq_true (List.all_eq_true.mp this.1 c hc), this.2⟩
/-- any([..]) where none is -/
theorem none_over {α : Type} {K : PySem.W.Frag} {J : It} {G : Hp → Prop} {vs0 : List V} (w : Walk J vs0.length G (YAt vs0)) {g : TG} {te : TE} {vs : List Nat} {σ : L2.St} {H1 : Hp} {R : VK} (xs : List α) (e : α → V)
    (hv : vs0 = xs.map e) (few : xs.length ≤ 100000) (hG : ∀ H, Same H1 H → G H)
    (hs : ∀ (i : Nat) b H (R' : VK), xs[i]? = some b → Same H1 H → (∀ H4, Same H H4 → R' (.bl false) H4) → g (e b) (wipe σ vs) H fun σ2 H2 => wipe σ2 vs = wipe σ vs ∧ te σ2 H2 R')
    (hd : ∀ H, Same H1 H → R (.bl false) H) : LcR J g tYes te vs σ H1 fun x H2 => tNil σ H2 fun xs H3 => rAny K (x :: xs) H3 R := by
  refine lc_over (Q := fun x H2 => rAny K [x] H2 R) w xs e (fun x => some (.bl false)) hv few hG (fun i b H R' Rn hb s k1 k2 => ?_) fun D H nD s ed => ?_
  · have z := hs i b H R' hb s fun H4 s4 => k1 H4 _ rfl s4
    have ty : (fun (σ2 : L2.St) H2 => wipe σ2 vs = wipe σ vs ∧ tYes σ2 H2 fun c H3 => if c = true then te σ2 H3 R' else Rn H3) = (fun σ2 H2 => wipe σ2 vs = wipe σ vs ∧ te σ2 H2 R') := by
      funext σ2 H2
      exact congrArg (And _) (tYes_if σ2 H2 (fun H3 => te σ2 H3 _) _)
    rw [ty]
    exact z
  · rw [fm_bl (fun _ => false)] at ed
    refine ⟨D, _, rfl, SqL.of ed, ?_⟩
    have : (xs.map fun _ => false).any id = false := by simp [List.any_map]
    rw [this]
    exact hd H s
theorem all_true (n : Nat) : (List.replicate n true).all id = true := by
  rw [List.all_eq_true]
  intro b hb
  rw [(List.mem_replicate.mp hb).2]
  rfl
section
variable {P : Program} {w : World} {K : PySem.W.Frag} {mg : Str → Option Value} {base : Heap} {f : Addr} {fd : FuncData}
def spRight (T : List (Addr × Str)) : Sp := fun vs H Q _ => ∃ (a : Addr) (N : Nat), vs = [.ref a] ∧ PotAt a N H ∧ N ≤ 5000 ∧ LamX.Tabs T H ∧ ∀ H', ExtPN a H H' → PotAt a (N + 500) H' → LamX.Tabs T H' → Q (.bl true) H'
abbrev nmR : List Str := ["pot", "names", "ring", "lot", "far", "near", "word", "lap", "value", "strange", "name", "bad", "caught"]
theorem scRight : FnScope nmR ["pot"] (defScope sRight) := ⟨rfl, rfl, rfl, by decide +kernel, rfl, by decide +kernel, by decide +kernel⟩
theorem ok_right {T : List (Addr × Str)} {C CN CL c Tb fC fH fNm fAL fLn fLs fAl fEq fIn fOd fBe fCR fLD fCl fLR fI : Addr} {dC dH dNm dAL dLn dLs dAl dEq dIn dOd dBe dCR dLD dCl dLR : FuncData}
    (F : Fun K "_law_right" "_law_right" sRight f fd) (Tl : Bl mg) (Cc : Cn mg)
    (hc : fd.code = .ref c) (TB : LamX.TabB base mg c Tb) (LT : LamT T Tb "_law_right") (CC : CircC K C fC) (IC : IsiC K C) (NC : NoC K C) (ec : ErC K CN fI) (ek : ErK K fI) (mU : mg "BadNames" = some (.ref CN)) (mL : mg "LotError" = some (.ref CL)) (mC : mg "Circle" = some (.ref C)) (em : PySem.W.exmOne K (.ref CN) (.ref CL) = some true)
    (FH : Fun K "_law_heard" "_law_heard" sHeard fH dH) (aH : At K mg "_law_heard" fH dH ["call"])
    (GNm : FnOk P w K mg base CX0 3 fNm dNm ["pot", "few", "upmost"] spNames) (aNm : At K mg "_law_names" fNm dNm ["pot", "few", "upmost"])
    (GAL : FnOk P w K mg base CX0 3 fAL dAL ["pot", "names", "few"] (spALot K)) (aAL : At K mg "_law_a_lot" fAL dAL ["pot", "names", "few"])
    (GI : FnOk P w K mg base (L2.CX P w) 3 fC dC ["self", "names"] (spCircX K C CN)) (bI : Binds K dC ["self", "names"] [])
    (GLn : FnOk P w K mg base CX0 1 fLn dLn ["self"] (spCircLen K C)) (ML : MethC K C "__len__" fLn) (bLn : Binds K dLn ["self"] [])
    (GLs : FnOk P w K mg base CX0 3 fLs dLs ["circle"] (spLots K C)) (aLs : At K mg "lots" fLs dLs ["circle"])
    (GAl : FnOk P w K mg base CX0 1 fAl dAl ["names"] (spAllLots K)) (aAl : At K mg "_law_all_lots" fAl dAl ["names"])
    (GEq : FnOk P w K mg base CX0 1 fEq dEq ["self", "other"] (spCircEq K C)) (ME : MethC K C "__eq__" fEq) (bEq : Binds K dEq ["self", "other"] []) (NE : NeC K C fEq)
    (GIn : FnOk P w K mg base CX0 1 fIn dIn ["self", "value"] (spCircIn K C)) (MI : MethC K C "__contains__" fIn) (bIn : Binds K dIn ["self", "value"] [])
    (GOd : FnOk P w K mg base CX0 3 fOd dOd ["pot"] spOdd) (aOd : At K mg "_law_odd" fOd dOd ["pot"])
    (GBe : FnOk P w K mg base CX0 6 fBe dBe ["pot", "value"] (spBent K 3)) (aBe : At K mg "_law_bent" fBe dBe ["pot", "value"])
    (GCR : FnG P w K mg base 8 fCR dCR ["value"] (spLCircR K T)) (aCR : At K mg "_law_is_circle_right" fCR dCR ["value"])
    (GLD : FnG P w K mg base 8 fLD dLD ["names", "ring", "value"] (spLLotDue K C T)) (aLD : At K mg "_law_is_lot_due" fLD dLD ["names", "ring", "value"])
    (GCl : FnOk P w K mg base (L2.CX P w) 3 fCl dCl ["self", "some"] (spCLot K C CN)) (hCl : Meth K C "lot" fCl) (bCl : Binds K dCl ["self", "some"] [])
    (GLR : FnOk P w K mg base CX0 5 fLR dLR ["pot", "names", "ring"] (spLLotsR K C)) (aLR : At K mg "_law_are_lots_right" fLR dLR ["pot", "names", "ring"]) :
    FnG P w K mg base 9 f fd ["pot"] (spRight T) := by
  refine fnG_ofC F scRight (fun vs H Q h => ?_) (fun A outer s H vs Q hr hG h => ?_)
  · obtain ⟨a, N, rfl, _⟩ := h
    rfl
  · obtain ⟨a, N, rfl, hp, hN, tbs, k⟩ := h
    have nd := scRight.nd
    have hu := hu_of hr
    have hu64 := room64 hr
    have hr1 : Room 1 _ := hr.mono (by decide)
    have hr2 : Room 2 _ := hr.mono (by decide)
    have hr3 : Room 3 _ := hr.mono (by decide)
    have hr4 : Room 4 _ := hr.mono (by decide)
    have hr5 : Room 5 _ := hr.mono (by decide)
    have hr6 : Room 6 _ := hr.mono (by decide)
    obtain ⟨oc, od, kV, doc, pm, an, cdv, ct, osl, rfl, lookH, codeH⟩ := FH.ex
    refine ⟨_, pss_cons (ps_set (i := 1) nd rfl (.inr rfl) (pe_call GNm hr3 (by rfl) aNm.m aNm.kp aNm.b .nil pass0 (pa_cons (pv 0) (pa_cons pe_int (pa_cons pe_int pa_nil)))))
      (pss_cons (ps_asg (pe_tup (pa_cons (pe_make CC.mkr (fn_calm GI) hr4 (by rfl) mC bI .nil pass0 (pa_cons (pv 1) pa_nil)) (pa_cons (pe_call GAL hr3 (by rfl) aAL.m aAL.kp aAL.b .nil pass0 (pa_cons (pv 0) (pa_cons (pv 1) (pa_cons pe_int pa_nil)))) pa_nil))) (pg_tup rfl (pgs_cons (pg_name (i := 2) nd rfl (.inr rfl)) (pgs_cons (pg_name (i := 3) nd rfl (.inr rfl)) pgs_nil))))
      (pss_cons (ps_if (pt_cmpR op_ne (pe_callB (call_reprP hG hu64) (by rfl) Tl.repr PyProof.Rows.boot_repr (pa_cons (pe_tup (pa_cons (pe_fld (pv 2) rfl) (pa_cons (pe_callB (call_lenI GLn ML.at_ ML.fn bLn hr2) (by rfl) Tl.len PySem.boot_len (pa_cons (pv 2) pa_nil)) (pa_cons (pe_call GLs hr3 (by rfl) aLs.m aLs.kp aLs.b .nil pass0 (pa_cons (pv 2) pa_nil)) pa_nil)))) pa_nil))
          (pe_callB (call_reprP hG hu64) (by rfl) Tl.repr PyProof.Rows.boot_repr (pa_cons (pe_tup (pa_cons (pv 1) (pa_cons (pe_callB call_len_seq (by rfl) Tl.len PySem.boot_len (pa_cons (pv 1) pa_nil)) (pa_cons (pe_tupleOf (by rfl) Cc.tuple (pe_call GAl hr1 (by rfl) aAl.m aAl.kp aAl.b .nil pass0 (pa_cons (pv 1) pa_nil))) pa_nil)))) pa_nil)) (nomark _)) pss_no pss_nil)
      (pss_cons (ps_for PassesOwn.never rfl (pi_tup (pe_tup (pa_cons (pv 1) (pa_cons (pe_rev (pv 1) pe_neg1) (pa_cons (pe_op op_catA (pe_slice sl_tupA (pv 1) (po_some pe_int) po_none) (pe_slice sl_tupA (pv 1) po_none (po_some pe_int))) (pa_cons (pe_slice sl_tupA (pv 1) po_none (po_some pe_int)) pa_nil)))))) (pg_name (i := 4) nd rfl (.inl rfl))
          (pss_one (ps_if (PW.pt (pw_or (pt_cmpR op_ne (pe_cmpR (op_eqI GEq ME.at_ ME.fn bEq hr1) (pv 2) (pe_make CC.mkr (fn_calm GI) hr4 (by rfl) mC bI .nil pass0 (pa_cons (pv 4) pa_nil)) (nomark _)) (pe_cmpR (op_eqD hu64) (pv 1) (pv 4) (nomark _)) (nomark _))
            (pw_or1 (pt_cmpR op_eq (pe_cmpR (op_neI GEq NE bEq hr2) (pv 2) (pe_make CC.mkr (fn_calm GI) hr4 (by rfl) mC bI .nil pass0 (pa_cons (pv 4) pa_nil)) (nomark _)) (pe_cmpR (op_eqI GEq ME.at_ ME.fn bEq hr1) (pv 2) (pe_make CC.mkr (fn_calm GI) hr4 (by rfl) mC bI .nil pass0 (pa_cons (pv 4) pa_nil)) (nomark _)) (nomark _))))) pss_no pss_nil)))
      (pss_cons (ps_set (i := 5) nd rfl (.inl rfl) (pe_lst (pa_cons (pe_slice sl_tupA (pv 1) po_none (po_some pe_int)) (pa_cons (pe_op op_catA (pv 1) (pe_slice sl_tupA (pv 1) po_none (po_some pe_int))) (pa_cons (pe_op op_catA (pv 1) (pe_tup (pa_cons pe_str pa_nil)))
          (pa_cons (pe_callTy call_list_of (by rfl) Tl.list boot_list (pa_cons (pv 1) pa_nil)) (pa_cons (pe_op op_catA (pe_slice sl_tupA (pv 1) po_none (po_some pe_neg1)) (pe_tup (pa_cons pe_str pa_nil))) (pa_cons (pe_tup pa_nil) pa_nil))))))))
      (pss_cons (ps_expr (pe_bm PySem.F.plainAttrs_list PySem.F.slot_list_extend PySem.F.type_list_extend mt_extend (pv 5) (pa_cons (pe_op op_cat (pe_lc (own := [("word", 6)]) (g := gName 6) (tt := tYes) (te := tOp (rCatA K) (tSl (rSlA K) (tVar 1) tNoPart (tPart (tC (.int (-1))))) (tTup (tCons (tVar 6) tNil))) rfl nd (pi_tup (pe_tup (pa_cons pe_str (pa_cons pe_str (pa_cons pe_str (pa_cons pe_str pa_nil))))))
              (blkOk_by (N := nmR) (sc := defScope sRight) (by decide +kernel)) (fun _ _ _ _ _ => pg_name (i := 6) nd rfl (.inl rfl)) (fun _ _ _ _ _ => pts_nil)
              (fun _ _ _ _ _ => pe_op op_catA (pe_slice sl_tupA (pv 1) po_none (po_some pe_neg1)) (pe_tup (pa_cons (pv 6) pa_nil))))
            (pe_lst (pa_cons (pe_call GOd hr3 (by rfl) aOd.m aOd.kp aOd.b .nil pass0 (pa_cons (pv 0) pa_nil)) (pa_cons pe_non pa_nil)))) pa_nil)))
      (pss_cons (ps_expr (pe_bm PySem.F.plainAttrs_list PySem.F.slot_list_extend PySem.F.type_list_extend mt_extend (pv 5) (pa_cons (pe_lc (own := [("lap", 7)]) (g := gName 7) (tt := tYes) rfl nd (pi_range1 (by rfl) Tl.range (pa_cons pe_int pa_nil))
              (blkOk_by (N := nmR) (sc := defScope sRight) (by decide +kernel)) (fun _ _ _ _ _ => pg_name (i := 7) nd rfl (.inl rfl)) (fun _ _ _ _ _ => pts_nil)
              (fun _ _ _ _ _ => pe_call GBe hr6 (by rfl) aBe.m aBe.kp aBe.b .nil pass0 (pa_cons (pv 0) (pa_cons (pv 1) pa_nil)))) pa_nil)))
      (pss_cons (ps_if (pt_not (pt_val (pe_callB (cr_all rfl) (by rfl) Tl.all boot_all (pa_cons (pe_lc (own := [("value", 8)]) (g := gName 8) (tt := tYes) rfl nd (pi_list (pe_op op_cat (pv 5) (pe_lst (pa_cons (pv 1) (pa_cons (pe_slice sl_tupA (pv 1) po_none (po_some pe_int)) pa_nil)))))
              (blkOk_by (N := nmR) (sc := defScope sRight) (by decide +kernel)) (fun _ _ _ _ _ => pg_name (i := 8) nd rfl (.inl rfl)) (fun _ _ _ _ _ => pts_nil)
              (fun _ _ _ _ _ => pe_gcall GCR hr hG (by rfl) aCR.m aCR.kp aCR.b (pa_cons (pv 8) pa_nil))) pa_nil)))) pss_no pss_nil)
      (pss_cons (ps_set (i := 9) nd rfl (.inl rfl) (pe_tup (pa_cons (pv 1) (pa_cons pe_non (pa_cons pe_int (pa_cons (pv 3) (pa_cons (pe_call GOd hr3 (by rfl) aOd.m aOd.kp aOd.b .nil pass0 (pa_cons (pv 0) pa_nil)) pa_nil)))))))
      (pss_cons (ps_if (PW.pt (pw_or (pt_val (pe_callB (cr_any rfl) (by rfl) Tl.any boot_any (pa_cons (pe_lc (own := [("value", 8)]) (g := gName 8) (tt := tYes) (te := tOp (rEqI K C (spCircEq K C)) (tVar 2) (tVar 8)) rfl nd (pi_tup (pv 9))
              (blkOk_by (N := nmR) (sc := defScope sRight) (by decide +kernel)) (fun _ _ _ _ _ => pg_name (i := 8) nd rfl (.inl rfl)) (fun _ _ _ _ _ => pts_nil)
              (fun _ _ _ _ _ => pe_cmpR (op_eqI GEq ME.at_ ME.fn bEq hr1) (pv 2) (pv 8) (nomark _))) pa_nil)))
            (pw_or (pt_not (pt_val (pe_callB (cr_all rfl) (by rfl) Tl.all boot_all (pa_cons (pe_lc (own := [("name", 10)]) (g := gName 10) (tt := tYes) (te := tOp (rInI C (spCircIn K C) false) (tVar 10) (tVar 2)) rfl nd (pi_tup (pv 1))
              (blkOk_by (N := nmR) (sc := defScope sRight) (by decide +kernel)) (fun _ _ _ _ _ => pg_name (i := 10) nd rfl (.inl rfl)) (fun _ _ _ _ _ => pts_nil)
              (fun _ _ _ _ _ => pe_cmpR (op_inI GIn MI.at_ MI.fn bIn hr1) (pv 10) (pv 2) rfl)) pa_nil))))
            (pw_or1 (pt_cmpR (op_inI GIn MI.at_ MI.fn bIn hr1) pe_str (pv 2) rfl))))) pss_no pss_nil)
      (pss_cons (ps_set (i := 11) nd rfl (.inl rfl) (pe_lst (pa_cons (pe_rev (pv 3) pe_neg1) (pa_cons (pe_callTy call_list_of (by rfl) Tl.list boot_list (pa_cons (pv 3) pa_nil)) (pa_cons (pe_op op_catA (pv 3) (pe_slice sl_tupA (pv 3) (po_some pe_neg1) po_none)) (pa_cons (pe_op op_catA (pv 3) (pe_tup (pa_cons pe_str pa_nil)))
          (pa_cons (pe_ix ix_tup (pv 3) pe_int (fun _ _ => rfl)) (pa_cons pe_non (pa_cons (pe_tup (pa_cons pe_non pa_nil)) (pa_cons (pe_call GOd hr3 (by rfl) aOd.m aOd.kp aOd.b .nil pass0 (pa_cons (pv 0) pa_nil)) pa_nil))))))))))
      (pss_cons (ps_expr (pe_bm PySem.F.plainAttrs_list PySem.F.slot_list_extend PySem.F.type_list_extend mt_extend (pv 11) (pa_cons (pe_lc (own := [("lap", 7)]) (g := gName 7) (tt := tYes) rfl nd (pi_range1 (by rfl) Tl.range (pa_cons pe_int pa_nil))
              (blkOk_by (N := nmR) (sc := defScope sRight) (by decide +kernel)) (fun _ _ _ _ _ => pg_name (i := 7) nd rfl (.inl rfl)) (fun _ _ _ _ _ => pts_nil)
              (fun _ _ _ _ _ => pe_call GBe hr6 (by rfl) aBe.m aBe.kp aBe.b .nil pass0 (pa_cons (pv 0) (pa_cons (pv 3) pa_nil)))) pa_nil)))
      (pss_cons (ps_if (pt_not (pt_val (pe_callB (cr_all rfl) (by rfl) Tl.all boot_all (pa_cons (pe_lc (own := [("value", 8)]) (g := gName 8) (tt := tYes) rfl nd (pi_list (pe_op op_cat (pv 11) (pe_lst (pa_cons (pv 3) (pa_cons (pe_tup pa_nil) (pa_cons (pv 1) pa_nil))))))
              (blkOk_by (N := nmR) (sc := defScope sRight) (by decide +kernel)) (fun _ _ _ _ _ => pg_name (i := 8) nd rfl (.inl rfl)) (fun _ _ _ _ _ => pts_nil)
              (fun _ _ _ _ _ => pe_gcall GLD hr hG (by rfl) aLD.m aLD.kp aLD.b (pa_cons (pv 1) (pa_cons (pv 2) (pa_cons (pv 8) pa_nil))))) pa_nil)))) pss_no pss_nil)
      (pss_cons (ps_for PassesOwn.never rfl (pi_tup (pe_tup (pa_cons (pe_callTy call_list_of (by rfl) Tl.list boot_list (pa_cons (pv 3) pa_nil)) (pa_cons (pe_op op_catA (pv 3) (pe_tup (pa_cons pe_str pa_nil))) (pa_cons (pe_op op_catA (pv 3) (pe_tup (pa_cons pe_int pa_nil))) (pa_cons pe_non (pa_cons (pe_ix ix_tup (pv 3) pe_int (fun _ _ => rfl)) pa_nil))))))) (pg_name (i := 8) nd rfl (.inr rfl))
          (pss_cons (ps_set (i := 12) nd rfl (.inl rfl) (pe_ix ix_tup (pe_hear (TT := ttHeard K CL) (T := T) (t := fun E => tMeth C "lot" (spCLot K C CN) [] E (tVar 2) (tCons (tVar 8) tNil)) (k := 3) (by rfl) aH.m aH.kp lookH codeH aH.b scHeard rfl (.inl rfl) (heard_gives mL) TB hc (LT.at (by rfl))
              (LT.only (by rfl)) hr5 (LamX.lamS_by (sc := defScope sRight) (by decide +kernel)) rfl (fun _ _ _ _ _ => rfl)
              (fun A o s H E f cl hr' => pe_meth (pv 2) CC.cls hCl GCl hr' bCl .nil (passes_call (W := fun cls d _ H => E cls d H) (takes_of rfl rfl rfl rfl) (fun _ _ _ _ h => h)) (pa_cons (pv 8) pa_nil))) pe_int (fun _ _ => rfl)))
          (pss_one (ps_if (PW.pt (pw_or (pt_not (pt_val (pe_callB call_cauIs (by rfl) Tl.isin boot_isinstance (pa_cons (pv 12) (pa_cons (pe_glob (v := .ref CN) (by rfl) mU rfl) pa_nil)))))
            (pw_or1 (pt_cmpR op_ne (pe_callB (call_reprV hG hu64) (by rfl) Tl.repr boot_repr (pa_cons (pe_cauV (pv 12)) pa_nil)) (pe_callB (call_reprV hG hu64) (by rfl) Tl.repr boot_repr (pa_cons (pv 8) pa_nil)) (nomark _))))) pss_no pss_nil))))
      (pss_one (ps_ret (pe_callB (cr_all rfl) (by rfl) Tl.all boot_all (pa_cons (pe_lc (own := [("lap", 7)]) (g := gName 7) (tt := tYes) rfl nd (pi_range1 (by rfl) Tl.range (pa_cons pe_int pa_nil))
              (blkOk_by (N := nmR) (sc := defScope sRight) (by decide +kernel)) (fun _ _ _ _ _ => pg_name (i := 7) nd rfl (.inl rfl)) (fun _ _ _ _ _ => pts_nil)
              (fun _ _ _ _ _ => pe_call GLR hr5 (by rfl) aLR.m aLR.kp aLR.b .nil pass0 (pa_cons (pv 0) (pa_cons (pv 1) (pa_cons (pv 2) pa_nil))))) pa_nil))))))))))))))))), ?_⟩
    -- names
    refine ⟨_, rfl, a, 2, 6, N, rfl, hp, by omega, by decide, by decide, by decide, fun ns nm H1 sel n2 n6 x1 p1 np1 hnX => ?_⟩
    have n2 : 2 ≤ ns.length := by omega
    have n6 : ns.length ≤ 6 := by omega
    have nma : nm ≠ a := fun z => hp.ne (by rw [← z]; exact np1)
    have pf : ∀ z ∈ ns, ascB z ∧ z.length ≤ 8 ∧ z ≠ "nobody" := fun z hz => pool_facts (sel.sub z hz)
    have nok : NmOk ns := ⟨sel.nodup (by decide +kernel), n6, fun z hz => ⟨asc_ok (pf z hz).1, (pf z hz).2.1⟩⟩
    have low : ∀ z ∈ ns, LowOk z := fun z hz => low_names z (sel.sub z hz)
    have hn1 : SqT K H1 nm (ns.map V.str) := hnX.sq
    clear hnX np1 sel
    -- ring, lot
    refine ⟨_, rfl, fun ca dx nx ndx nxx => ?_⟩
    have s2 : Same H1 (upd (upd H1 dx (.own ca)) ca (.ins C dx [])) := fun b o e => by
      rw [upd_ne (ne_of_none e nx), upd_ne (ne_of_none e ndx)]
      exact e
    have okN : ∀ z ∈ ns, PyData.strOk z = true ∧ z.length ≤ 8 := nok.ok
    refine ⟨ca, dx, .ref nm, .tuple (strsD ns), rfl, upd_same, vd_strs (sqT_same s2 hn1) okN (by omega), fun zs _ _ _ _ _ H2 ke ex => ⟨rfl, ?_⟩, fun h => absurd ⟨ns, rfl, n2, n6, low, nok.nd⟩ h⟩
    have s12 : Same H1 H2 := fun b o e => ke b o (ne_of_none e nx) (s2 b o e)
    have hc2 : CircAt K H2 C ca ns := ⟨dx, nm, ex, sqT_same s12 hn1⟩
    have p2 := p1.same s12
    refine ⟨_, rfl, _, rfl, a, nm, 1, _, ns, rfl, p2, by omega, nma, .inr (sqT_same s12 hn1), nok.nd, by omega, by decide, by omega, fun ys lt H3 ysub yl x3 p3 np3 el3 => ?_⟩
    have yl : 1 ≤ ys.length := by omega
    have lta : lt ≠ a := fun z => p2.ne (by rw [← z]; exact np3)
    refine ⟨few_ok rfl, fun t nt => ⟨t, _, rfl, .inl (.inl upd_same), rfl, _, _, rfl, _, _, rfl, rfl, ?_⟩⟩
    have s4 : Same H3 (upd H3 t (.tup [.ref ca, .ref lt])) := same_new nt
    have x4 : ExtP a H (upd H3 t (.tup [.ref ca, .ref lt])) := (x1.trans (.of s12)).trans (x3.trans (.of s4))
    have x14 : ExtP a H1 (upd H3 t (.tup [.ref ca, .ref lt])) := (ExtP.of s12).trans (x3.trans (.of s4))
    have x24 : ExtP a H2 (upd H3 t (.tup [.ref ca, .ref lt])) := x3.trans (.of s4)
    have hn4 := Lk.SqT.keep hn1 (Keep.ext p1 x14)
    have hc4 := hc2.keep (Keep.ext p2 x24)
    have el4 := s4 _ _ el3
    have p4 := p3.same s4
    have tb4 := tabs_extP hp tbs x4
    generalize upd H3 t (.tup [.ref ca, .ref lt]) = H4 at x4 hn4 hc4 el4 p4 tb4 ⊢
    clear x14 x24 s4 nt el3 np3 p3 x3 hc2 p2 s12 ex ke s2 nx ndx nxx hn1 p1 x1 tbs
    have y6 : ys.length ≤ 6 := Nat.le_trans ysub.length_le n6
    obtain ⟨cdx, cnm, ec4, en4⟩ := id hc4
    -- repr
    refine ⟨_, rfl, ca, C, cdx, _, .ref cnm, rfl, ec4, CC.cls, CC.nm, rfl, _, rfl, ca, cdx, _, rfl, ec4, ca, ns, rfl, hc4, _, rfl, by omega, by omega, ?_⟩
    refine ⟨_, rfl, ca, ns, rfl, hc4, n6, fun r ts rws H5 s5 er pr lo => ⟨few_ok rfl, fun t1 nt1 => ?_⟩⟩
    have s6 : Same H5 (upd H5 t1 (.tup [.ref cnm, .int ns.length, .ref r])) := same_new nt1
    have s46 := s5.trans s6
    have nR : Nice (64 * (6 * (8 + 1) + 1)) 2 (.tuple (rws.map fun r => .tuple (strsD r))) := Nice.tup (fun d hd => by
      obtain ⟨r, hr, rfl⟩ := List.mem_map.mp hd
      exact nice_lot nok (lots_sub lo r hr)) (by rw [List.length_map]; exact lots_64 lo n6)
    have nD : Nice (3 * (64 * (6 * (8 + 1) + 1) + 1)) 3 (.tuple [.tuple (strsD ns), .int (ns.length : Int), .tuple (rws.map fun r => .tuple (strsD r))]) := Nice.tup (fun d hd => by
      simp only [List.mem_cons, List.not_mem_nil, or_false] at hd
      rcases hd with rfl | rfl | rfl
      · exact (nice_lot nok (.refl _)).mono (by decide) (by decide)
      · exact (nice_small n6).mono (by decide) (by decide)
      · exact nR) (by simp)
    have nD := nD.mono (m := 1000000) (j := 50) (by decide) (by decide)
    obtain ⟨D0, hD0⟩ : ∃ D0, D0 = PyData.tuple [.tuple (strsD ns), .int (ns.length : Int), .tuple (rws.map fun r => .tuple (strsD r))] := ⟨_, rfl⟩
    rw [← hD0] at nD
    refine ⟨_, D0, rfl, by rw [hD0]; exact .tup (SqT.of upd_same) (.cons (.tup (sqT_same s46 en4) (dp_strs ns)) (.cons (.int _) (.cons (.tup (SqT.of (s6 _ _ er)) (rows_dp (relT_same s6 pr))) .nil))), nD, ?_⟩
    refine ⟨_, rfl, _, rfl, nm, _, rfl, .inr (sqT_same s46 hn4), ?_⟩
    rw [List.length_map]
    refine ⟨_, rfl, nm, ns, rfl, sqT_same s46 hn4, n6, fun D ts2 rws2 H7 s7 nD7 eD7 pr2 lo2 => ?_⟩
    obtain rfl := lots_uniq lo lo2
    refine .inl ⟨D, _, rfl, SqL.of eD7, fun q nq => ⟨few_ok rfl, fun t2 nt2 => ?_⟩⟩
    have s8 : Same H7 (upd H7 q (.tup ts2)) := same_new nq
    have s9 : Same (upd H7 q (.tup ts2)) (upd (upd H7 q (.tup ts2)) t2 (.tup [.ref nm, .int ns.length, .ref q])) := same_new nt2
    have s49 := (s46.trans s7).trans (s8.trans s9)
    refine ⟨_, D0, rfl, by rw [hD0]; exact .tup (SqT.of upd_same) (.cons (.tup (sqT_same s49 hn4) (dp_strs ns)) (.cons (.int _) (.cons (.tup (SqT.of (s9 _ _ upd_same)) (rows_dp (relT_same (s8.trans s9) pr2))) .nil))), nD, rfl, _, rfl, iteB (by rw [decide_eq_true rfl]; rfl) ?_⟩
    generalize upd (upd H7 q (.tup ts2)) t2 (.tup [.ref nm, .int ns.length, .ref q]) = H8 at s49 ⊢
    have x8 : ExtP a H H8 := x4.trans (.of s49)
    have hn8 := sqT_same s49 hn4
    have hc8 := hc4.same s49
    have el8 := s49 _ _ el4
    have p8 := p4.same s49
    have tb8 := tb4.ext fun b o q => s49 _ _ q
    clear hD0
    clear s9 s8 nt2 nq pr2 eD7 nD7 s7 nD nR s46 s6 nt1 lo lo2 pr er s5 ec4 en4 tb4 p4 el4 hc4 hn4 x4 s49
    -- circles near to it
    have far0 := far_self nok.nd n2 n6
    refine ⟨_, rfl, _, rfl, nm, _, rfl, hn8, fun q2 nq2 => ?_⟩
    have s9 : Same H8 (upd H8 q2 (.tup (ns.map V.str).reverse)) := same_new nq2
    have hq2 : SqT K (upd H8 q2 (.tup (ns.map V.str).reverse)) q2 (ns.reverse.map V.str) := by
      rw [List.map_reverse]
      exact SqT.of upd_same
    generalize upd H8 q2 (.tup (ns.map V.str).reverse) = H9 at s9 hq2 ⊢
    refine ⟨_, rfl, 1, rfl, ?_⟩
    try unfold tNoPart
    refine slice_str (sqT_same s9 hn8) fun q3 H10 s10 hq3 => ?_
    refine ⟨_, rfl, ?_⟩
    try unfold tNoPart
    refine ⟨1, rfl, slice_str (sqT_same (s9.trans s10) hn8) fun q4 H11 s11 hq4 => ?_⟩
    have cl : ∀ lo hi, (cutL ns lo hi).length ≤ 6 := fun lo hi => by
      unfold cutL
      rw [List.length_take, List.length_drop]
      omega
    refine cat_str (sqT_same s11 hq3) hq4 (by have := cl (some 1) none; have := cl none (some 1); omega) fun q5 H12 s12 hq5 => ?_
    have s812 := (s9.trans s10).trans (s11.trans s12)
    refine ⟨_, rfl, ?_⟩
    try unfold tNoPart
    refine ⟨2, rfl, slice_str (sqT_same s812 hn8) fun q6 H13 s13 hq6 => ⟨few_ok rfl, fun q7 nq7 => ?_⟩⟩
    have s813 := s812.trans s13
    have s14 : Same H13 (upd H13 q7 (.tup [.ref nm, .ref q2, .ref q5, .ref q6])) := same_new nq7
    have eq7 : upd H13 q7 (.tup [.ref nm, .ref q2, .ref q5, .ref q6]) q7 = some (.tup [.ref nm, .ref q2, .ref q5, .ref q6]) := upd_same
    generalize upd H13 q7 (.tup [.ref nm, .ref q2, .ref q5, .ref q6]) = H14 at s14 eq7 ⊢
    have s814 := s813.trans s14
    have each : ∀ v ∈ [V.ref nm, .ref q2, .ref q5, .ref q6], ∃ p fs, v = V.ref p ∧ SqT K H14 p (fs.map V.str) ∧ FarOk ns fs := fun v hv => by
      simp only [List.mem_cons, List.not_mem_nil, or_false] at hv
      rcases hv with rfl | rfl | rfl | rfl
      · exact ⟨_, _, rfl, sqT_same s814 hn8, far0⟩
      · exact ⟨_, _, rfl, sqT_same (((s10.trans (s11.trans s12)).trans s13).trans s14) hq2, far_perm far0 (List.reverse_perm ns)⟩
      · exact ⟨_, _, rfl, sqT_same (s13.trans s14) hq5, far_perm far0 (cut_turn n2)⟩
      · exact ⟨_, _, rfl, sqT_same s14 hq6, far_two far0⟩
    have hc14 := hc8.same s814
    have hn14 := sqT_same s814 hn8
    clear s9 hq2 hq3 hq4 hq5 hq6 s10 s11 s12 s13 s812 s813 s14 nq7 nq2 cl
    have shN : SeqAt.shaped (.tuple (strsD ns)) = true := (nice_lot nok (.refl _)).shaped (by decide)
    refine ⟨q7, rfl, ⟨_, SqT.of eq7⟩, for_tup (xs := [.ref nm, .ref q2, .ref q5, .ref q6]) (fun j σ H' => ∃ u4 : Option V, σ = [some (.ref a), some (.ref nm), some (.ref ca), some (.ref lt), u4, none, none, none, none, none, none, none, none] ∧ Same H14 H') ?_ ?_ ?_ ?_⟩
    · exact ⟨none, rfl, Same.refl _⟩
    · rintro j σ H' _ ⟨_, rfl, ss⟩
      exact SqT.of (ss _ _ eq7)
    · rintro j v σ H15 hv ⟨u4, rfl, s15⟩
      obtain ⟨p, fs, rfl, hfs, far⟩ := each v (List.mem_of_getElem? hv)
      have f6 := far.k6
      have nokF : NmOk fs := ⟨far.nd, far.k6, fun z hz => okN z (far.sub z hz)⟩
      have lowF : ∀ z ∈ fs, LowOk z := fun z hz => low z (far.sub z hz)
      have shF : SeqAt.shaped (.tuple (strsD fs)) = true := (nice_lot nokF (.refl _)).shaped (by decide)
      have ring : ∀ {H' : Hp}, Same H14 H' → CircAt K H' C ca ns := fun s => hc14.same s
      have eqv : PyData.eqv (.tuple (strsD ns)) (.tuple (strsD fs)) = decide (ns = fs) := by
        rw [Bool.eq_iff_iff, eqvD_strs, decide_eq_true_iff]
        exact ⟨fun h => strsD_inj (PyData.tuple.inj h), fun h => by rw [h]⟩
      -- Circle(far)
      have mkF : ∀ {H' : Hp} {x dx : Addr} {R : VK}, Same H14 H' → H' x = none → H' dx = none → (∀ H'', Same H' H'' → H'' x = some (.ins C dx [("names", .ref p)]) → R .non H'') → spCircX K C CN [.ref x, .ref p] (upd (upd H' dx (.own x)) x (.ins C dx [])) R (fun _ _ _ => False) := fun {H' x dx R} ss nx ndx hR => by
        have sM : Same H' (upd (upd H' dx (.own x)) x (.ins C dx [])) := fun b o e => by
          rw [upd_ne (ne_of_none e nx), upd_ne (ne_of_none e ndx)]
          exact e
        exact ⟨x, dx, .ref p, .tuple (strsD fs), rfl, upd_same, vd_strs (sqT_same (ss.trans sM) hfs) nokF.ok (by omega), fun zs _ _ _ _ _ H2 ke ex => hR H2 (fun b o e => ke b o (ne_of_none e nx) (sM b o e)) ex, fun h => absurd ⟨fs, rfl, far.k2, far.k6, lowF, far.nd⟩ h⟩
      have nf : PySem.W.notFirst K C (.ref C) = true := by unfold PySem.W.notFirst; simp
      refine ⟨_, rfl, _, rfl, fun x dx nx ndx nnx => mkF s15 nx ndx fun H16 s16 ex => ⟨rfl, ?_⟩⟩
      have s1416 := s15.trans s16
      obtain ⟨cdx', cnm', ec', en'⟩ := ring s1416
      refine ⟨ca, cdx', _, .ref C, rfl, ec', IC.ty _ _ _ _ ex, nf, ca, ns, .ref x, rfl, ring s1416, nok, .inl ⟨x, fs, rfl, ⟨dx, p, ex, sqT_same s1416 hfs⟩, nokF, _, rfl, ?_⟩⟩
      refine ⟨_, rfl, _, rfl, .tuple (strsD ns), .tuple (strsD fs), .tup (sqT_same s1416 hn14) (dp_strs _), .tup (sqT_same s1416 hfs) (dp_strs _), shN, shF, ?_⟩
      rw [eqv]
      refine ⟨rfl, _, rfl, iteB (by rw [decide_eq_true rfl]; rfl) ?_⟩
      refine ⟨_, rfl, _, rfl, fun x2 dx2 nx2 ndx2 nnx2 => mkF s1416 nx2 ndx2 fun H17 s17 ex2 => ⟨rfl, ?_⟩⟩
      have s1417 := s1416.trans s17
      obtain ⟨cdx2, cnm2, ec2, en2⟩ := ring s1417
      refine ⟨ca, x2, cdx2, dx2, _, _, rfl, rfl, ec2, ex2, ca, ns, .ref x2, rfl, ring s1417, nok, .inl ⟨x2, fs, rfl, ⟨dx2, p, ex2, sqT_same s1417 hfs⟩, nokF, _, rfl, ?_⟩⟩
      refine ⟨_, rfl, _, rfl, fun x3 dx3 nx3 ndx3 nnx3 => mkF s1417 nx3 ndx3 fun H18 s18 ex3 => ⟨rfl, ?_⟩⟩
      have s1418 := s1417.trans s18
      obtain ⟨cdx3, cnm3, ec3, en3⟩ := ring s1418
      refine ⟨ca, cdx3, _, .ref C, rfl, ec3, IC.ty _ _ _ _ ex3, nf, ca, ns, .ref x3, rfl, ring s1418, nok, .inl ⟨x3, fs, rfl, ⟨dx3, p, ex3, sqT_same s1418 hfs⟩, nokF, _, rfl, ?_⟩⟩
      refine ⟨rfl, _, rfl, iteB ?_ ?_⟩
      · by_cases h : ns = fs <;> simp [h]
      · exact ⟨_, rfl, s1418⟩
    rintro σ H15 ⟨u4, rfl, s15⟩
    have s815 := s814.trans s15
    have x15 : ExtP a H H15 := x8.trans (.of s815)
    have hn15 := sqT_same s815 hn8
    have hc15 := hc8.same s815
    have el15 := s815 _ _ el8
    have p15 := p8.same s815
    have tb15 := tb8.ext fun b o q => s815 _ _ q
    clear each hn14 hc14 eq7 s814 s15 s815 tb8 p8 el8 hc8 hn8 x8 shN
    -- values near to the names
    have ma : a ∈ [a] := List.mem_singleton.mpr rfl
    have nin : ∀ {b : Addr}, b ≠ a → b ∉ [a] := fun h e => h (List.mem_singleton.mp e)
    have P15 : PotA a [a] (N + 20 + 20) H15 := ⟨p15, fun b hb => by rw [List.mem_singleton.mp hb]; exact p15.ne, ma⟩
    have dN15 : Dp K (hid [a] H15) (.ref nm) (.tuple (strsD ns)) := .tup (sqT_hid hn15 (nin nma)) (dp_strs ns)
    have gN15 : GtV K [a] 12 0 6 H15 (.ref nm) := gt_names dN15 okN n6
    have w12 : ∀ {z : Str}, (PyData.strOk z && decide (z.length ≤ 12)) = true → Nice 12 0 (.str z) := fun h => by
      rw [Bool.and_eq_true, decide_eq_true_eq] at h
      exact Nice.str h.1 h.2
    refine vset_new (K := K) (n := 0) (N := N + 20 + 20) (vda_cons (gt_vd (gt_sl (gt_var rfl gN15) cn_no cn_int) (by decide)) (vda_cons (gt_vd (gt_cat (gt_var rfl gN15) (gt_sl (gt_var rfl gN15) cn_no cn_int) (by decide)) (by decide))
      (vda_cons (gt_vd (gt_cat (gt_var rfl gN15) (gt_tup (gda_cons (gd_str (w12 (by decide +kernel))) gda_nil) (by decide)) (by decide)) (by decide)) (vda_cons (vd_of (gd_list (c' := 400) (k' := 1) (gt_var rfl gN15) (by decide) (by decide)) (by decide) (by decide))
      (vda_cons (gt_vd (gt_cat (gt_sl (gt_var rfl gN15) cn_no cn_int) (gt_tup (gda_cons (gd_str (w12 (by decide +kernel))) gda_nil) (by decide)) (by decide)) (by decide)) (vda_cons (gt_vd (gt_tup (c := 12) (k := 0) (m := 0) gda_nil (by decide)) (by decide)) vda_nil)))))) (by decide) P15 (by omega) ?_
    intro xs F H16 x16 P16 nF nFa eF xl gF
    have Fa : F ≠ a := fun z => nFa (by rw [z]; exact ma)
    have P16' := potA_cons P16 eF
    have mF : F ∈ [F, a] := List.mem_cons_self
    have ma2 : a ∈ [F, a] := List.mem_cons_of_mem _ ma
    have dN16 : Dp K (hid [F, a] H16) (.ref nm) (.tuple (strsD ns)) := dp_addG ma nF x16 dN15
    have gN16 : GtV K [F, a] 12 0 6 H16 (.ref nm) := gt_names dN16 okN n6
    have gW : ∀ (as : List Addr) (H' : Hp), ∀ v ∈ [V.str "toolonger", .str "", .str "a1", .str "a b"], GdV K as 12 0 H' v := fun as H' v hv => by
      simp only [List.mem_cons, List.not_mem_nil, or_false] at hv
      rcases hv with rfl | rfl | rfl | rfl <;> exact ⟨.str _, .str _, w12 (by decide +kernel)⟩
    refine vext_seq (K := K) (N := N + 20 + 20) (ls_cat (ls_tup (m := 4) (n0 := 0) (xs := [.str "toolonger", .str "", .str "a1", .str "a b"]) (fun _ _ h => h) rfl (by decide)
        (fun D v H0 hv nD x0 => gt_vd (gt_cat (gt_sl (gt_var rfl (gt_addG ma2 nD x0 gN16)) cn_no cn_int) (gt_tup (gda_cons (gd_var rfl (gW _ _ v hv)) gda_nil) (by decide)) (by decide)) (by decide)) (fun _ => rfl))
      (ls_disp (vda_cons (vd_odd rfl) (vda_cons (vd_of (c := 0) (k := 0) gd_non (by decide) (by decide)) vda_nil)) (by decide)) (by decide)) P16' (by omega) (by decide) rfl Fa mF eF (by omega) gF ?_
    intro vs1 H17 y17 P17 eF17 vl1 gF17
    have bw : ∀ {H' H'' : Hp}, ExtP a H15 H' → (∀ b o, b ≠ a → b ≠ F → H' b = some o → H'' b = some o) → ExtP a H15 H'' := fun x y b o ba e => y b o ba (fun z => by rw [z, nF] at e; cases e) (x b o ba e)
    have x17 := bw x16 y17
    have dN17 : Dp K (hid [F, a] H17) (.ref nm) (.tuple (strsD ns)) := dp_addG ma nF x17 dN15
    have ascN : ∀ z ∈ ns, ascB z ∧ z.length ≤ 8 := fun z hz => ⟨(pf z hz).1, (pf z hz).2.1⟩
    refine vext_seq (K := K) (ls_range (m := 3) (n0 := 6) (j := 3) rfl (by decide) (fun D v H0 nD x0 => vd_bent rfl rfl (dp_addG ma2 nD x0 dN17) (bn_names ascN n6)) (fun _ => rfl) P17.pot.ne) P17 (by omega) (by decide) rfl Fa mF eF17 (by rw [List.length_append]; omega) gF17 ?_
    intro vs2 H18 y18 P18 eF18 vl2 gF18
    have x18 := bw x17 y18
    have P18' := potA_tail P18 ma
    have gN18 : GtV K [a] 12 0 6 H18 (.ref nm) := gN15.ext ma x18
    have L18 : LsV K [a] 15 H18 (.ref F) := ⟨F, _, rfl, nFa, eF18, by rw [List.length_append, List.length_append]; omega, gF18⟩
    refine (ls_cat (ls_var (m := 15) rfl L18) (ls_disp (vda_cons (gt_vd (gt_var rfl gN18) (by decide)) (vda_cons (gt_vd (gt_sl (gt_var rfl gN18) cn_no cn_int) (by decide)) vda_nil)) (by decide)) (by decide)) H18 _ (.refl _ _) P18' (by omega) _ ?_
    intro v0 H19 x19 P19 gL
    obtain ⟨R, vs, rfl, nR, eR, hl, gv⟩ := gL
    refine ⟨R, rfl, ⟨_, SqL.of eR⟩, fun D nD => ?_⟩
    have x1519 := x18.trans x19
    have tb19 := tabs_extP p15 tb15 x1519
    refine lc_it (walk_list (a := R) (xs := vs)) (fun q Hq => Hq D = some (.lst (List.replicate q (V.bl true))) ∧ LamX.ExtN H19 Hq ∧ LamX.Tabs T Hq) ⟨upd_same, .of (same_new nD), tb19.ext fun b o e => same_new nD _ _ e⟩ (fun q Hq _ ⟨_, x, _⟩ => SqL.of (x _ _ eR fun _ z => by cases z)) ?_ ?_
    · rintro i v Hq Hq' hi ⟨eD, xq, tq⟩ ⟨rfl, hv⟩
      obtain ⟨d, hd⟩ := (gv v (List.mem_of_getElem? hv)).plain
      refine ⟨rfl, ?_⟩
      unfold tYes
      refine iteT ?_
      refine ⟨_, rfl, v, d, rfl, hd.extN xq, tq, fun H3 x3 t3 => ?_⟩
      have eD3 := x3 _ _ eD fun _ z => by cases z
      refine ⟨_, eD3, by rw [List.length_replicate, sizeLine_eq]; omega, by rw [upd_same, List.replicate_succ'], fun b o e z => ?_, tabs_but t3 eD3 fun b o nb e => by rw [upd_ne nb]; exact e⟩
      rw [upd_ne (ne_of_none e nD)]
      exact x3 b o (xq b o e z) z
    rintro H20 ⟨eD, xq, tb20⟩
    refine ⟨D, List.replicate vs.length true, rfl, SqL.of (by rw [eD, List.map_replicate]), ?_⟩
    rw [all_true]
    refine ⟨_, rfl, iteB rfl ?_⟩
    have xN : ExtPN a H H20 := ((ExtPN.of x15).trans (.of x1519)).trans (.ofN xq)
    have hn20 := sqT_extN xq (Lk.SqT.keep hn15 (Keep.ext p15 x1519))
    have hc20 := (hc15.keep (Keep.ext p15 x1519)).keep (Keep.extN xq)
    have el20 := xq _ _ (x1519 _ _ lta el15) fun _ z => by cases z
    have p20 := (PotAt.extN P19.pot xq).mono (show _ ≤ N + 100 by omega)
    clear eD xq tb19 x1519 nD gv hl eR nR P19 x19 L18 gN18 P18' x18 gF18 vl2 eF18 P18 y18 dN17 x17 bw gF17 vl1 eF17 P17 y17 gW gN16 dN16 ma2 mF P16' Fa gF xl eF nFa nF P16 x16 gN15 dN15 P15 tb15 p15 el15 hc15 hn15 x15
    -- strange values
    have P20 : PotA a [a] (N + 100) H20 := ⟨p20, fun b hb => by rw [List.mem_singleton.mp hb]; exact p20.ne, ma⟩
    have okL : ∀ z ∈ ys, PyData.strOk z = true ∧ z.length ≤ 8 := fun z hz => okN z (ysub.subset hz)
    have dN20 : Dp K (hid [a] H20) (.ref nm) (.tuple (strsD ns)) := .tup (sqT_hid hn20 (nin nma)) (dp_strs ns)
    have dL20 : Dp K (hid [a] H20) (.ref lt) (.tuple (strsD ys)) := .tup (sqT_hid (SqT.of el20) (nin lta)) (dp_strs ys)
    refine vset_tup (K := K) (n := 1) (N := N + 100) (vda_cons (gt_vd (gt_var rfl (gt_names dN20 okN n6)) (by decide)) (vda_cons (vd_of (c := 0) (k := 0) gd_non (by decide) (by decide)) (vda_cons (vd_of (c := 8) (k := 0) gd_int0 (by decide) (by decide)) (vda_cons (gt_vd (gt_var rfl (gt_names dL20 okL y6)) (by decide)) (vda_cons (vd_odd rfl) vda_nil))))) (by decide) P20 (by omega) ?_
    intro vs3 S H21 x21 P21 Sa eS vl3 g3
    have hn21 := Lk.SqT.keep hn20 (Keep.ext p20 x21)
    have hc21 := hc20.keep (Keep.ext p20 x21)
    have el21 := x21 _ _ lta el20
    have tb21 := tabs_extP p20 tb20 x21
    obtain ⟨cdx, cnm, ec21, en21⟩ := id hc21
    refine ⟨_, rfl, S, rfl, ⟨_, SqT.of eS⟩, none_over (walk_tup (a := S) (xs := vs3)) vs3 id (by rw [List.map_id]) (by omega) (fun H s => SqT.of (s _ _ eS)) ?_ ?_⟩
    · rintro i v Ha R hv sa kk
      obtain ⟨d, hd⟩ := (g3 v (List.mem_of_getElem? hv)).plain
      have hda := hd.same sa
      obtain ⟨t, ht, ty⟩ := vd_ty hda
      exact ⟨rfl, _, rfl, _, rfl, ca, cdx, _, .type t, rfl, sa _ _ ec21, ty, NC.fst t ht, ca, ns, v, rfl, hc21.same sa, nok, .inr ⟨.type t, ty, NC.kit t ht, false, rfl, kk _ (Same.refl _)⟩⟩
    intro H22 s22
    refine ⟨_, rfl, iteB rfl ?_⟩
    have hn22 := sqT_same s22 hn21
    have hc22 := hc21.same s22
    refine ⟨_, rfl, nm, rfl, ⟨_, hn22⟩, all_over (walk_tup (a := nm) (xs := ns.map V.str)) ns V.str (fun _ => true) rfl (by omega) (fun H s => sqT_same s hn22) ?_ ?_⟩
    · rintro i z Ha R hz sa kk
      obtain ⟨cdx2, cnm2, ec2, en2⟩ := hc22.same sa
      refine ⟨rfl, _, rfl, _, rfl, ca, cdx2, _, rfl, ec2, ca, ns, z, rfl, hc22.same sa, _, rfl, ?_⟩
      rw [if_neg (by decide), decide_eq_true (List.mem_of_getElem? hz)]
      exact kk _ (Same.refl _)
    intro H23 s23
    refine ⟨_, rfl, iteB (by simp) ?_⟩
    have s2123 := s22.trans s23
    have hn23 := sqT_same s2123 hn21
    have hc23 := hc21.same s2123
    obtain ⟨cdx3, cnm3, ec23, en23⟩ := id hc23
    refine ⟨_, rfl, ca, cdx3, _, rfl, ec23, ca, ns, "nobody", rfl, hc23, _, rfl, ?_⟩
    have nn : ("nobody" : Str) ∉ ns := fun h => (pf _ h).2.2 rfl
    rw [if_neg (by decide), decide_eq_false nn]
    refine ⟨_, rfl, iteB rfl ?_⟩
    have x23 : ExtP a H20 H23 := x21.trans (.of s2123)
    have el23 := s2123 _ _ el21
    have p23 := P21.pot.same s2123
    have tb23 := tb21.ext fun b o q => s2123 _ _ q
    have xN23 : ExtPN a H H23 := xN.trans (.of x23)
    clear en23 ec23 hc22 hn22 s22 s23 s2123 x23 en21 ec21 tb21 el21 hc21 hn21 g3 vl3 eS Sa P21 x21 dL20 dN20 P20 p20 el20 hc20 hn20 xN tb20
    -- values near to a lot
    obtain ⟨y0, hy0⟩ : ∃ y0, ys[0]? = some y0 := ⟨_, List.getElem?_eq_getElem (by omega)⟩
    have hv0 : (ys.map V.str)[0]? = some (V.str y0) := by rw [List.getElem?_map, hy0]; rfl
    have ym : y0 ∈ ys := List.mem_of_getElem? hy0
    have ascL : ∀ z ∈ ys, ascB z ∧ z.length ≤ 8 := fun z hz => ⟨(pf z (ysub.subset hz)).1, (pf z (ysub.subset hz)).2.1⟩
    have P23 : PotA a [a] (N + 100 + 1) H23 := ⟨p23, fun b hb => by rw [List.mem_singleton.mp hb]; exact p23.ne, ma⟩
    have dL23 : Dp K (hid [a] H23) (.ref lt) (.tuple (strsD ys)) := .tup (sqT_hid (SqT.of el23) (nin lta)) (dp_strs ys)
    have dN23 : Dp K (hid [a] H23) (.ref nm) (.tuple (strsD ns)) := .tup (sqT_hid hn23 (nin nma)) (dp_strs ns)
    have gL23 : GtV K [a] 12 0 6 H23 (.ref lt) := gt_names dL23 okL y6
    have gN23 : GtV K [a] 12 0 6 H23 (.ref nm) := gt_names dN23 okN n6
    have g0 : GdV K [a] 12 0 H23 (.str y0) := ⟨.str y0, .str y0, (Nice.str (okL y0 ym).1 (okL y0 ym).2).mono (by decide) (by decide)⟩
    refine vset_new (K := K) (n := 1) (N := N + 100 + 1) (vda_cons (gt_vd (gt_rev (gt_var rfl gL23)) (by decide)) (vda_cons (vd_of (gd_list (c' := 400) (k' := 1) (gt_var rfl gL23) (by decide) (by decide)) (by decide) (by decide))
      (vda_cons (gt_vd (gt_cat (gt_var rfl gL23) (gt_sl (gt_var rfl gL23) cn_int cn_no) (by decide)) (by decide)) (vda_cons (gt_vd (gt_cat (gt_var rfl gL23) (gt_tup (gda_cons (gd_str (w12 (by decide +kernel))) gda_nil) (by decide)) (by decide)) (by decide))
      (vda_cons (vd_of (c := 12) (k := 0) (gd_ix (j := 0) rfl (sqT_hid (SqT.of el23) (nin lta)) hv0 g0) (by decide) (by decide)) (vda_cons (vd_of (c := 0) (k := 0) gd_non (by decide) (by decide)) (vda_cons (gt_vd (gt_tup (c := 12) (k := 0) (gda_cons gd_non gda_nil) (by decide)) (by decide)) (vda_cons (vd_odd rfl) vda_nil)))))))) (by decide) P23 (by omega) ?_
    intro xs F H24 x24 P24 nF nFa eF xl gF
    have Fa : F ≠ a := fun z => nFa (by rw [z]; exact ma)
    have P24' := potA_cons P24 eF
    have mF : F ∈ [F, a] := List.mem_cons_self
    have ma2 : a ∈ [F, a] := List.mem_cons_of_mem _ ma
    have dL24 : Dp K (hid [F, a] H24) (.ref lt) (.tuple (strsD ys)) := dp_addG ma nF x24 dL23
    refine vext_seq (K := K) (ls_range (m := 3) (n0 := 6) (j := 3) rfl (by decide) (fun D v H0 nD x0 => vd_bent rfl rfl (dp_addG ma2 nD x0 dL24) (bn_names ascL y6)) (fun _ => rfl) P24'.pot.ne) P24' (by omega) (by decide) rfl Fa mF eF (by omega) gF ?_
    intro vs1 H25 y25 P25 eF25 vl1 gF25
    have x25 : ExtP a H23 H25 := fun b o ba e => y25 b o ba (fun z => by rw [z, nF] at e; cases e) (x24 b o ba e)
    have P25' := potA_tail P25 ma
    have L25 : LsV K [a] 11 H25 (.ref F) := ⟨F, _, rfl, nFa, eF25, by rw [List.length_append]; omega, gF25⟩
    refine (ls_cat (ls_var (m := 11) rfl L25) (ls_disp (vda_cons (gt_vd (gt_var rfl (gL23.ext ma x25)) (by decide)) (vda_cons (gt_vd (gt_tup (c := 12) (k := 0) (m := 0) gda_nil (by decide)) (by decide)) (vda_cons (gt_vd (gt_var rfl (gN23.ext ma x25)) (by decide)) vda_nil))) (by decide)) (by decide)) H25 _ (.refl _ _) P25' (by omega) _ ?_
    intro v0 H26 x26 P26 gL
    obtain ⟨R, vs, rfl, nR, eR, hl, gv⟩ := gL
    refine ⟨R, rfl, ⟨_, SqL.of eR⟩, fun D nD => ?_⟩
    have x2326 := x25.trans x26
    have tb26 := tabs_extP p23 tb23 x2326
    have hn26 := Lk.SqT.keep hn23 (Keep.ext p23 x2326)
    have hc26 := hc23.keep (Keep.ext p23 x2326)
    have el26 := x2326 _ _ lta el23
    refine lc_it (walk_list (a := R) (xs := vs)) (fun q Hq => Hq D = some (.lst (List.replicate q (V.bl true))) ∧ LamX.ExtN H26 Hq ∧ LamX.Tabs T Hq) ⟨upd_same, .of (same_new nD), tb26.ext fun b o e => same_new nD _ _ e⟩ (fun q Hq _ ⟨_, x, _⟩ => SqL.of (x _ _ eR fun _ z => by cases z)) ?_ ?_
    · rintro i v Hq Hq' hi ⟨eD, xq, tq⟩ ⟨rfl, hv⟩
      obtain ⟨d, hd⟩ := (gv v (List.mem_of_getElem? hv)).plain
      refine ⟨rfl, ?_⟩
      unfold tYes
      refine iteT ?_
      refine ⟨_, rfl, _, rfl, _, rfl, nm, ca, ns, v, d, rfl, sqT_extN xq hn26, nok, hc26.keep (Keep.extN xq), hd.extN xq, tq, fun H3 x3 t3 => ?_⟩
      have eD3 := x3 _ _ eD fun _ z => by cases z
      refine ⟨_, eD3, by rw [List.length_replicate, sizeLine_eq]; omega, by rw [upd_same, List.replicate_succ'], fun b o e z => ?_, tabs_but t3 eD3 fun b o nb e => by rw [upd_ne nb]; exact e⟩
      rw [upd_ne (ne_of_none e nD)]
      exact x3 b o (xq b o e z) z
    rintro H30 ⟨eD, xq, tb30⟩
    refine ⟨D, List.replicate vs.length true, rfl, SqL.of (by rw [eD, List.map_replicate]), ?_⟩
    rw [all_true]
    refine ⟨_, rfl, iteB rfl ?_⟩
    have xN30 : ExtPN a H H30 := (xN23.trans (.of x2326)).trans (.ofN xq)
    have hn30 := sqT_extN xq hn26
    have hc30 := hc26.keep (Keep.extN xq)
    have el30 := xq _ _ el26 fun _ z => by cases z
    have p30 := (PotAt.extN P26.pot xq).mono (show _ ≤ N + 130 by omega)
    clear eD xq el26 hc26 hn26 tb26 x2326 nD gv hl eR nR P26 x26 L25 P25' x25 gF25 vl1 eF25 P25 y25 dL24 ma2 mF P24' Fa gF xl eF nFa nF P24 x24 gN23 gL23 dN23 dL23 P23 g0 tb23 p23 el23 hc23 hn23 xN23
    -- what is no names of this circle
    refine ⟨_, rfl, lt, _, rfl, .inr (SqT.of el30), fun l1 nl1 => ?_⟩
    have s31 : Same H30 (upd H30 l1 (.lst (ys.map V.str))) := same_new nl1
    have e1 : upd H30 l1 (.lst (ys.map V.str)) l1 = some (.lst (ys.map V.str)) := upd_same
    generalize upd H30 l1 (.lst (ys.map V.str)) = H31 at s31 e1 ⊢
    refine ⟨_, rfl, few_ok rfl, fun t2 nt2 => cat_str (gs := [("nobody" : Str)]) (SqT.of (same_new nt2 _ _ (s31 _ _ el30))) (SqT.of upd_same) (by show ys.length + 1 ≤ _; omega) fun q2 H32 s32' hq2 => ?_⟩
    have s32 : Same H31 H32 := (same_new nt2).trans s32'
    have el32 := s32 _ _ (s31 _ _ el30)
    refine ⟨_, rfl, few_ok rfl, fun t3 nt3 => ⟨lt, t3, _, _, rfl, rfl, SqT.of (same_new nt3 _ _ el32), SqT.of upd_same, by rw [List.length_map, sizeLine_eq]; show ys.length + 1 ≤ _; omega, fun e => ?_, fun _ e => (by cases e), fun _ _ q3 nq3 => ?_⟩⟩
    · have : ys = [] := List.map_eq_nil_iff.mp e
      rw [this] at yl
      exact absurd yl (by decide)
    have s33 : Same H32 (upd (upd H32 t3 (.tup [.int 0])) q3 (.tup (ys.map V.str ++ [.int 0]))) := (same_new nt3).trans (same_new nq3)
    have e3 : upd (upd H32 t3 (.tup [.int 0])) q3 (.tup (ys.map V.str ++ [.int 0])) q3 = some (.tup (ys.map V.str ++ [.int 0])) := upd_same
    generalize upd (upd H32 t3 (.tup [.int 0])) q3 (.tup (ys.map V.str ++ [.int 0])) = H33 at s33 e3 ⊢
    refine ⟨_, rfl, lt, _, _, _, rfl, rfl, SqT.of (s33 _ _ el32), atI_nat (j := 0) hv0, few_ok rfl, fun q7 nq7 => ?_⟩
    have s34 : Same H33 (upd H33 q7 (.tup [.ref l1, .ref q2, .ref q3, .non, .str y0])) := same_new nq7
    have eq7 : upd H33 q7 (.tup [.ref l1, .ref q2, .ref q3, .non, .str y0]) q7 = some (.tup [.ref l1, .ref q2, .ref q3, .non, .str y0]) := upd_same
    generalize upd H33 q7 (.tup [.ref l1, .ref q2, .ref q3, .non, .str y0]) = H34 at s34 eq7 ⊢
    have s3034 := (s31.trans s32).trans (s33.trans s34)
    have okY : ∀ d ∈ strsD ys, Nice 8 0 d := fun d hd => by
      obtain ⟨z, hz, rfl⟩ := List.mem_map.mp hd
      exact Nice.str (okL z hz).1 (okL z hz).2
    have lY : (strsD ys).length = ys.length := by unfold strsD; rw [List.length_map]
    have each : ∀ v ∈ [V.ref l1, .ref q2, .ref q3, .non, .str y0], ∃ d, VD K H34 v d ∧ ¬ NmsD ns d := fun v hv => by
      simp only [List.mem_cons, List.not_mem_nil, or_false] at hv
      rcases hv with rfl | rfl | rfl | rfl | rfl
      · refine ⟨.list (strsD ys), .inl ⟨.lst (SqL.of ((s32.trans (s33.trans s34)) _ _ e1)) (dp_strs ys), (Nice.lst okY (m := 6) (by omega)).mono (by decide) (by decide)⟩, fun ⟨zs, h, _⟩ => by cases h⟩
      · refine ⟨.tuple (strsD (ys ++ [("nobody" : Str)])), vd_strs (sqT_same (s33.trans s34) hq2) (fun z hz => ?_) (by rw [List.length_append]; show ys.length + 1 ≤ 100; omega), fun ⟨zs, h, hz⟩ => ?_⟩
        · rcases List.mem_append.mp hz with hz | hz
          · exact okL z hz
          · rw [List.mem_singleton.mp hz]
            decide +kernel
        · have := strsD_inj (PyData.tuple.inj h)
          exact nn (hz _ (by rw [← this]; exact List.mem_append_right _ (List.mem_singleton.mpr rfl)))
      · refine ⟨.tuple (strsD ys ++ [.int 0]), .inl ⟨.tup (SqT.of (s34 _ _ e3)) (DpAll.append (dp_strs ys) (.cons (.int 0) .nil)), (Nice.tup (c := 8) (k := 0) (m := 7) (fun d hd => ?_) (by rw [List.length_append, lY]; show ys.length + 1 ≤ 7; omega)).mono (by decide) (by decide)⟩, fun ⟨zs, h, _⟩ => ?_⟩
        · rcases List.mem_append.mp hd with hd | hd
          · exact okY d hd
          · rw [List.mem_singleton.mp hd]
            exact nice_small (n := 0) (by decide)
        · have h := PyData.tuple.inj h
          have : PyData.int 0 ∈ strsD zs := by rw [← h]; exact List.mem_append_right _ (List.mem_singleton.mpr rfl)
          obtain ⟨z, _, e⟩ := List.mem_map.mp this
          cases e
      · exact ⟨.none, .inl ⟨.non, nice_none.mono (by decide) (by decide)⟩, fun ⟨zs, h, _⟩ => by cases h⟩
      · exact ⟨.str y0, .inl ⟨.str y0, (okY _ (List.mem_map.mpr ⟨y0, ym, rfl⟩)).mono (by decide) (by decide)⟩, fun ⟨zs, h, _⟩ => by cases h⟩
    have hn34 := sqT_same s3034 hn30
    have hc34 := hc30.same s3034
    have p34 := p30.same s3034
    have tb34 := tb30.ext fun b o q => s3034 _ _ q
    have xN34 : ExtPN a H H34 := xN30.trans (.of (.of s3034))
    clear okY lY s31 e1 s32' hq2 s32 el32 s33 e3 nt2 nt3 nq3 nq7 s34 s3034 el30 p30 hc30 hn30 tb30 xN30 nl1
    refine ⟨q7, rfl, ⟨_, SqT.of eq7⟩, for_tup (xs := [.ref l1, .ref q2, .ref q3, .non, .str y0]) (fun j σ H' => ∃ (u4 u5 u9 u11 u8 u12 : Option V), σ = [some (.ref a), some (.ref nm), some (.ref ca), some (.ref lt), u4, u5, none, none, u8, u9, none, u11, u12] ∧ LamX.ExtN H34 H' ∧ LamX.Tabs T H') ?_ ?_ ?_ ?_⟩
    · exact ⟨_, _, _, _, _, _, rfl, .refl _, tb34⟩
    · rintro j σ H' _ ⟨_, _, _, _, _, _, rfl, ss, _⟩
      exact SqT.of (ss _ _ eq7 fun _ z => by cases z)
    · rintro j v σ H35 hv ⟨u4, u5, u9, u11, u8, u12, rfl, x35, tb35⟩
      obtain ⟨d, hd, nms⟩ := each v (List.mem_of_getElem? hv)
      refine ⟨tb35, fun H1 gr1 tb1 H2 s2 R hR => ?_⟩
      have x2 : LamX.ExtN H34 H2 := x35.trans (gr1.trans (.of s2))
      have hc2 := hc34.keep (Keep.extN x2)
      have hv2 := hd.extN x2
      obtain ⟨cdx2, cnm2, ec2, _⟩ := id hc2
      refine ⟨_, rfl, ca, cdx2, _, rfl, ec2, rfl, _, rfl, ca, ns, v, d, rfl, hc2, nok, hv2, fun zs h hz => absurd ⟨zs, h, hz⟩ nms, fun _ y H3 s3 ny ey => ⟨em, fun a1 t na nta nt => ?_⟩⟩
      have s34' : Same H3 (upd (upd H3 a1 (exq a1 (.ref CN) (some y))) t (.tup [.ref a1, .non])) := fun b o q => by
        rw [upd_ne (ne_of_none q nt), upd_ne (ne_of_none q na)]
        exact q
      have c4 : CauAt (upd (upd H3 a1 (exq a1 (.ref CN) (some y))) t (.tup [.ref a1, .non])) CN a1 y v := ⟨by rw [upd_ne nta.symm, upd_same], s34' _ _ ey⟩
      have eT : upd (upd H3 a1 (exq a1 (.ref CN) (some y))) t (.tup [.ref a1, .non]) t = some (.tup [.ref a1, .non]) := upd_same
      generalize upd (upd H3 a1 (exq a1 (.ref CN) (some y))) t (.tup [.ref a1, .non]) = H4 at s34' c4 eT ⊢
      have s24 := s3.trans s34'
      have hv4 := hv2.same s24
      refine ⟨t, _, _, _, rfl, rfl, SqT.of eT, rfl, ?_⟩
      refine ⟨_, rfl, a1, CN, y, fI, v, .ref CN, .ref CN, true, rfl, ec, ek, c4, .own CN, kit_self, _, rfl, iteB rfl ?_⟩
      refine ⟨_, rfl, a1, CN, y, _, fI, rfl, ec, c4, v, d, rfl, hv4, _, rfl, v, d, rfl, hv4, rfl, _, rfl, iteB (by rw [decide_eq_true rfl]; rfl) ?_⟩
      exact ⟨_, _, _, _, _, _, rfl, x2.trans (.of s24), tb1.ext fun b o q => s24 _ _ (s2 _ _ q)⟩
    rintro σ H35 ⟨u4, u5, u9, u11, u8, u12, rfl, x35, tb35⟩
    have hn35 := sqT_extN x35 hn34
    have hc35 := hc34.keep (Keep.extN x35)
    have p35 := PotAt.extN p34 x35
    have xN35 : ExtPN a H H35 := xN34.trans (.ofN x35)
    clear each hn34 hc34 p34 tb34 xN34 eq7 x35
    -- lots
    refine ⟨6, rfl, by decide, by decide, fun D nD => ?_⟩
    have Da : D ≠ a := fun z => p35.ne (by rw [← z]; exact nD)
    refine lc_it (walk_range (n := 6)) (fun q Hq => Hq D = some (.lst (List.replicate q (V.bl true))) ∧ PotAt a (N + 130 + 60 * q) Hq ∧ ExtP a H35 Hq) ⟨upd_same, p35.same (same_new nD), .of (same_new nD)⟩ (fun _ _ _ _ => trivial) ?_ ?_
    · rintro i v Hq Hq' hi ⟨eD, pq, xq⟩ hy
      obtain ⟨rfl, rfl⟩ := hy
      refine ⟨rfl, ?_⟩
      unfold tYes
      refine iteT ?_
      refine ⟨_, rfl, _, rfl, _, rfl, a, nm, ca, _, ns, rfl, pq, by omega, nma, Lk.SqT.keep hn35 (Keep.ext p35 xq), nok, n2, hc35.keep (Keep.ext p35 xq), fun H3 x3 p3 => ?_⟩
      have eD3 := x3 _ _ Da eD
      refine ⟨_, eD3, by rw [List.length_replicate, sizeLine_eq]; omega, by rw [upd_same, List.replicate_succ'], ?_, fun b o ba e => ?_⟩
      · obtain ⟨o, b, c, e, r⟩ := p3.mono (show N + 130 + 60 * i + 60 ≤ N + 130 + 60 * (i + 1) by omega)
        exact ⟨o, b, c, by rw [upd_ne Da.symm]; exact e, r⟩
      · rw [upd_ne (ne_of_none e nD)]
        exact x3 b o ba (xq b o ba e)
    rintro H36 ⟨eD, p36, x36⟩
    refine ⟨D, List.replicate 6 true, rfl, SqL.of (by rw [eD, List.map_replicate]), ?_⟩
    rw [all_true]
    exact k _ (xN35.trans (.of x36)) (p36.mono (by omega)) (tabs_extP p35 tb35 x36)
end
end K6
set_option Elab.async false
set_option linter.all false
set_option maxRecDepth 100000
set_option maxHeartbeats 2000000
set_option pp.maxSteps 1200
set_option pp.deepTerms false
namespace K6
open PySem PySem.Spec PyProof.Rows L2 Lk
abbrev sLaw : Stmt := top 37
section
variable {P : Program} {w : World} {K : PySem.W.Frag} {mg : Str → Option Value} {base : Heap} {f : Addr} {fd : FuncData}
/-! ### law -/
def spLaw (K : PySem.W.Frag) (T : List (Addr × Str)) : Sp := fun vs H Q _ => ∃ (a : Addr) (ns : List Int), vs = [.ref a] ∧ SqL K H a (ns.map V.int) ∧ ns.length ≤ 63 ∧ LamX.Tabs T H ∧ ∀ H', Q (.bl true) H'
theorem scLaw : FnScope ["script", "place", "pot", "lap"] ["script"] (defScope sLaw) := ⟨rfl, rfl, rfl, by decide +kernel, rfl, by decide +kernel, by decide +kernel⟩
theorem ok_law {T : List (Addr × Str)} {fR fC fP : Addr} {fdR fdC fdP : FuncData} (F : Fun K "law" "law" sLaw f fd) (Tl : Bl mg)
    (GR : FnG P w K mg base 9 fR fdR ["pot"] (spRight T)) (aR : At K mg "_law_right" fR fdR ["pot"])
    (FC : Fun K "_law_cells" "_law_cells" sCells fC fdC) (bC : Binds K fdC ["script", "limit"] []) (mC : mg "_law_cells" = some (.ref fC))
    (FP : Fun K "_law_pot" "_law_pot" sPot fP fdP) (bP : Binds K fdP ["script", "place"] []) (mP : mg "_law_pot" = some (.ref fP)) :
    FnG P w K mg base 10 f fd ["script"] (spLaw K T) := by
  have GC : FnOk P w K mg base CX0 1 fC fdC ["script", "limit"] (spCells K) := ok_cells FC Tl
  have GP : FnOk P w K mg base CX0 1 fP fdP ["script", "place"] (spPot K) := ok_pot FP Tl
  refine FnG.of F scLaw (fun vs H Q h => ?_) (fun cdv A outer s H vs Q hr hG h => ?_)
  · obtain ⟨a, ns, rfl, _⟩ := h
    rfl
  · obtain ⟨a, ns, rfl, hs, hl, tbs, k⟩ := h
    have nd := scLaw.nd
    have hr1 : Room 1 _ := hr.mono (by decide)
    refine ⟨_, pss_cons (ps_for PassesOwn.never rfl (pi_list (pe_call GC hr1 (by rfl) mC FC.kp bC .nil pass0 (pa_cons (pv 0) (pa_cons pe_int pa_nil)))) (pg_name (i := 1) nd rfl (.inl rfl))
          (pss_cons (ps_set (i := 2) nd rfl (.inr rfl) (pe_call GP hr1 (by rfl) mP FP.kp bP .nil pass0 (pa_cons (pv 0) (pa_cons (pv 1) pa_nil))))
          (pss_one (ps_if (pt_not (pt_val (pe_callB (cr_all rfl) (by rfl) Tl.all boot_all (pa_cons (pe_lc (own := [("lap", 3)]) (g := gName 3) (tt := tYes) rfl nd (pi_range1 (by rfl) Tl.range (pa_cons pe_int pa_nil))
              (blkOk_by (N := ["script", "place", "pot", "lap"]) (sc := defScope sLaw) (by decide +kernel)) (fun _ _ _ _ _ => pg_name (i := 3) nd rfl (.inl rfl)) (fun _ _ _ _ _ => pts_nil)
              (fun _ _ _ _ _ => pe_gcall GR hr hG (by rfl) aR.m aR.kp aR.b (pa_cons (pv 2) pa_nil))) pa_nil)))) pss_no pss_nil))))
      (pss_one (ps_ret pe_bl)), ?_⟩
    refine ⟨_, rfl, a, ns, 4, rfl, hs, hl, by decide, by decide, fun l n hn nl => ?_⟩
    have sl : Same H (upd H l (.lst (rgV 0 (n : Int)))) := same_new nl
    have el : upd H l (.lst (rgV 0 (n : Int))) l = some (.lst (rgV 0 (n : Int))) := upd_same
    have hs1 := sl.seq hs
    have tb1 := tbs.ext fun b o q => sl b o q
    generalize upd H l (.lst (rgV 0 (n : Int))) = H1 at sl el hs1 tb1 ⊢
    have rl : (rgV 0 (n : Int)).length = n := by
      unfold rgV
      rw [List.length_map, List.length_range]
      omega
    refine ⟨l, rfl, ⟨_, SqL.of el⟩, for_list (xs := rgV 0 (n : Int)) (fun i σ H' => ∃ u1 u2 u3 : Option V, σ = [some (.ref a), u1, u2, u3] ∧ LamX.ExtN H1 H' ∧ LamX.Tabs T H') ?_ ?_ ?_ ?_⟩
    · exact ⟨_, _, _, rfl, .refl _, tb1⟩
    · rintro i σ H' _ ⟨_, _, _, rfl, x, _⟩
      exact SqL.of (x _ _ el fun _ z => by cases z)
    · rintro i v σ H' hv ⟨u1, u2, u3, rfl, x', tb'⟩
      have hi : i < n := by
        have := (List.getElem?_eq_some_iff.mp hv).1
        omega
      obtain rfl : v = V.int (0 + (i : Nat)) := by
        unfold rgV at hv
        rw [List.getElem?_map, List.getElem?_range (by omega)] at hv
        exact (Option.some.inj hv).symm
      refine ⟨_, rfl, _, rfl, a, ns, _, rfl, sqL_extN x' hs1, hl, by omega, by omega, fun p H2 np s2 hp => ?_⟩
      have tb2 := tb'.ext fun b o q => s2 b o q
      have x2 : LamX.ExtN H1 H2 := x'.trans (.of s2)
      have fr : ∀ b o, H1 b = some o → (∀ ps, o ≠ .tbl ps) → b ≠ p := fun b o e z q => by
        have := x' b o e z
        rw [q, np] at this
        cases this
      refine ⟨3, rfl, by decide, by decide, fun D nD => ?_⟩
      have Dp : D ≠ p := fun z => hp.ne (by rw [← z]; exact nD)
      refine lc_it (walk_range (n := 3)) (fun q Hq => Hq D = some (.lst (List.replicate q (V.bl true))) ∧ PotAt p (0 + 500 * q) Hq ∧ ExtPN p H2 Hq ∧ LamX.Tabs T Hq) ⟨upd_same, hp.same (same_new nD), .of (.of (same_new nD)), tb2.ext fun b o e => same_new nD _ _ e⟩ (fun _ _ _ _ => trivial) ?_ ?_
      · rintro q y Hq Hq' hq ⟨eD, pq, xq, tq⟩ hy
        obtain ⟨rfl, rfl⟩ := hy
        refine ⟨rfl, ?_⟩
        unfold tYes
        refine iteT ?_
        refine ⟨_, rfl, p, _, rfl, pq, by omega, tq, fun H3 x3 p3 t3 => ?_⟩
        have eD3 := x3 _ _ Dp eD fun _ z => by cases z
        refine ⟨_, eD3, by rw [List.length_replicate, sizeLine_eq]; omega, by rw [upd_same, List.replicate_succ'], ?_, fun b o bp e z => ?_, tabs_but t3 eD3 fun b o nb e => by rw [upd_ne nb]; exact e⟩
        · obtain ⟨o, b, c, e, r⟩ := p3.mono (show 0 + 500 * q + 500 ≤ 0 + 500 * (q + 1) by omega)
          exact ⟨o, b, c, by rw [upd_ne Dp.symm]; exact e, r⟩
        · rw [upd_ne (ne_of_none e nD)]
          exact x3 b o bp (xq b o bp e z) z
      rintro Hq ⟨eD, pq, xq, tq⟩
      refine ⟨D, List.replicate 3 true, rfl, SqL.of (by rw [eD, List.map_replicate]), ?_⟩
      rw [all_true]
      refine ⟨_, rfl, iteB rfl ?_⟩
      exact ⟨_, _, _, rfl, fun b o e z => xq b o (fr b o e z) (x2 b o e z) z, tq⟩
    rintro σ H' ⟨_, _, _, rfl, _⟩
    exact k _
end
end K6
set_option Elab.async false
set_option linter.all false
set_option maxRecDepth 100000
set_option maxHeartbeats 4000000
/-! Part Gs: the end of a law whose text has tables of code objects: cs tells the code objects and their tables. -/
namespace Lk
open PySem PySem.Spec PyProof.Rows L2 LamX
theorem gcallTs {P : Program} {w : World} {K : PySem.W.Frag} {mg mb : Str → Option Value} {lev : Nat} {fa a : Addr} {cs : List (Addr × Addr)} {fD : FuncData} {x : Str} {sp : Sp}
    {s0 : Shared} {vs : List Value} {ns : List Int} (KX : K.In s0.heap) (hns : s0.heap.Ns mainGlobals mg) (hb : s0.heap.Ns builtinsNs mb)
    (hbb : ∀ x : Str, x ≠ "__name__" → mb x = bootBuiltins x) (hlim : s0.heap.NoLimit) (hg : s0.gens = #[])
    (emptyS : ∀ p ∈ cs, s0.heap.get? p.2 = some { cls := .none, data := .fields #[] }) (unseenS : ∀ p ∈ cs, K.lookup p.2 = none) (CdS : ∀ p ∈ cs, PySem.W.CodeHd s0.heap p.1 p.2)
    (hbm : ∃ (bm : Addr) (ob : Obj), mg "__builtins__" = some (.ref bm) ∧ bm ≠ builtinsNs ∧ s0.heap.get? bm = some ob ∧ ob.cls = .type "module" ∧ ob.dict = some builtinsNs ∧ ob.data = .plain)
    (ha : s0.heap.get? a = some { cls := .type "list", data := .seq vs.toArray }) (hi : IntsAre vs ns) (hl : ns.length ≤ sizeLine) (room : Room lev callerA)
    (F : ∀ base : Heap, K.In base → base.Ns mainGlobals mg → (∀ p ∈ cs, TabB base mg p.1 p.2) → FnG P w K mg base lev fa fD [x] sp)
    (hbind : ∀ (s : Shared) (u : Value), BindsTo s fD ⟨[u], []⟩ [(x, u)])
    (hsp : ∀ H : Hp, (∀ p ∈ cs, H p.2 = some (.tbl #[])) → SqL K H a (ns.map V.int) → sp [.ref a] H (fun v _ => v = .bl true) E0) :
    codeAny (model P w) callerA (.call (.ref fa) ⟨[.ref a], []⟩) (fun r s' => r = .ok (.ret (.bool true)) ∧ OldK s0.heap s'.heap ∧ s'.os = s0.os ∧ AllBare s'.gens) s0 := by
  have rv := vals_ints hi
  have lenV := hi.length
  have isT : ∀ {b : Addr}, b ∈ cs.map (·.2) → ∃ p ∈ cs, p.2 = b := fun h => by
    obtain ⟨p, hp, e⟩ := List.mem_map.mp h
    exact ⟨p, hp, e⟩
  have empty : ∀ {b : Addr}, b ∈ cs.map (·.2) → s0.heap.get? b = some { cls := .none, data := .fields #[] } := fun h => by
    obtain ⟨p, hp, rfl⟩ := isT h
    exact emptyS p hp
  have aT : a ∉ cs.map (·.2) := fun z => by
    have e := empty z
    rw [ha] at e
    cases e
  have main : ∀ H : Hp, (∀ p ∈ cs, H p.2 = some (.tbl #[])) → (∀ b, H b = none ∨ b ∈ cs.map (·.2) ∨ ∃ o xs, H b = some (.frz o (.lst xs))) → SqL K H a (ns.map V.int) → HOk P w H s0.heap → (∀ b, H b ≠ none → b = a ∨ b ∈ cs.map (·.2)) → (H a ≠ none → K.lookup a = none) →
      codeAny (model P w) callerA (.call (.ref fa) ⟨[.ref a], []⟩) (fun r s' => r = .ok (.ret (.bool true)) ∧ OldK s0.heap s'.heap ∧ s'.os = s0.os ∧ AllBare s'.gens) s0 := by
    intro H hT hO hS hok hA hK
    have look : ∀ {b : Addr} {o : Obj}, s0.heap.get? b = some o → H b = none → (hidT s0.heap H).get? b = some o := by
      intro b o e n
      exact hidT_get e n
    have other : ∀ {b : Addr} {o : Obj}, s0.heap.get? b = some o → (∀ us n, o.data ≠ .seq us n) → o.data ≠ .fields #[] → H b = none := by
      intro b o e h1 h2
      cases q : H b with
      | none => rfl
      | some u =>
        rcases hA b (by rw [q]; simp) with z | z
        · subst z
          rw [ha] at e
          cases e
          exact absurd rfl (h1 _ _)
        · rw [empty z] at e
          cases e
          exact absurd rfl h2
    have noD : ∀ {b : Addr} {o : Obj} {es : Array DictEntry} {ep : Nat}, s0.heap.get? b = some o → o.data = .dict es ep → H b = none := by
      intro b o es ep e d
      exact other e (fun us n z => by rw [d] at z; cases z) (fun z => by rw [d] at z; cases z)
    have ns2 : ∀ {b : Addr} {m : Str → Option Value}, s0.heap.Ns b m → (hidT s0.heap H).Ns b m := by
      rintro b m ⟨o, es, ep, e, d, r⟩
      exact ⟨o, es, ep, look e (noD e d), d, r⟩
    have inB : K.In (hidT s0.heap H) := by
      intro b o e
      refine look (KX b o e) ?_
      cases q : H b with
      | none => rfl
      | some u =>
        rcases hA b (by rw [q]; simp) with z | z
        · subst z
          rw [hK (by rw [q]; simp)] at e
          cases e
        · obtain ⟨p, hp, rfl⟩ := isT z
          rw [unseenS p hp] at e
          cases e
    have lim2 : (hidT s0.heap H).NoLimit := by
      obtain ⟨mc, h1, h2⟩ := hlim
      exact ⟨mc, ns2 h1, h2⟩
    have TB : ∀ p ∈ cs, TabB (hidT s0.heap H) mg p.1 p.2 := by
      intro p0 hp0
      refine ⟨?_, ?_, ?_⟩
      · obtain ⟨o, us, file, tf, flags, tg, inF, text, tt, e1, r1, r2, r3, r4, r5, r6, r7, r8, r9⟩ := CdS p0 hp0
        refine ⟨o, us, file, tf, flags, tg, inF, text, tt, look e1 (other e1 ?_ ?_), r1, r2, r3, r4, r5, r6, r7, r8, r9⟩
        · intro us' n z
          rw [r2] at z
          cases z
        · intro z
          rw [r2] at z
          cases z
          simp at r3
      · obtain ⟨bm, ob, b1, b2, b3, b4, b5, b6⟩ := hbm
        refine ⟨bm, ob, b1, b2, ?_, ?_, look b3 (other b3 ?_ ?_), b4, b5, b6⟩
        · intro z
          obtain ⟨o, es, ep, e, d, _⟩ := hns
          rw [z, e] at b3
          cases b3
          rw [d] at b6
          cases b6
        · intro z
          rw [z, emptyS p0 hp0] at b3
          cases b3
          cases b6
        · intro us' n z
          rw [b6] at z
          cases z
        · intro z
          rw [b6] at z
          cases z
      · intro z
        obtain ⟨o, es, ep, e, d, _⟩ := hns
        rw [z, emptyS p0 hp0] at e
        cases e
        cases d
    have e0 : Env0 P w K mg (hidT s0.heap H) callerA [] s0 H :=
      ⟨rfl, ⟨inB, ns2 hns, ⟨mb, ns2 hb, hbb⟩, lim2⟩, fun b o e => of_hidT e, Nat.le_of_eq (hidT_size _ _), trivial,
        fun b hb => absurd (show b ∈ ([] : List Addr) from hb) (by simp), hok, .of_eq hg⟩
    refine codeAny_mono ((F _ inB (ns2 hns) TB).goes callerA [] s0 H ⟨[.ref a], []⟩ [.ref a] [.ref a] _ room rfl e0 (hbind s0 (.ref a)) (.cons rfl .nil) (hsp H hT hS)) ?_
    intro r s' h
    cases r with
    | error e => exact h.elim
    | ok fl =>
      cases fl with
      | next => exact False.elim h
      | brk => exact False.elim h
      | cont => exact False.elim h
      | ret u =>
        obtain ⟨v, H', os, bare, un, hok', r', q⟩ := h
        cases (show v = .bl true from q)
        cases (show u = Value.bool true from r')
        have stays : ∀ b o, b ∉ cs.map (·.2) → s0.heap.get? b = some o → s'.heap.get? b = some o := by
          intro b o nb e
          cases q : H b with
          | none => exact un.keep b o e q (fun z => absurd (show b ∈ ([] : List Addr) from z) (by simp)) (by simp)
          | some u =>
            rcases hO b with z | z | ⟨ob, xs, z⟩
            · rw [q] at z; cases z
            · exact absurd z nb
            · obtain ⟨e1, _⟩ := hok b _ z
              obtain ⟨e2, _⟩ := hok' b _ (un.frzs b ob _ z)
              rw [e] at e1
              cases e1
              exact e2
        have now : ∀ p ∈ cs, ∃ more : Array Value, s'.heap.get? p.2 = some { cls := .none, data := .fields more } := by
          intro p hp
          obtain ⟨more, grew⟩ := un.tbls p.2 #[] (hT p hp)
          have y := hok' p.2 _ grew
          rw [Array.empty_append] at y
          exact ⟨more, y⟩
        refine ⟨rfl, ⟨?_, ?_⟩, os, bare⟩
        · intro b o e
          by_cases h : b ∈ cs.map (·.2)
          · obtain ⟨p, hp, rfl⟩ := isT h
            obtain ⟨more, nw⟩ := now p hp
            rw [emptyS p hp] at e
            cases e
            exact .inr (.inl ⟨((CdS p hp).tab (emptyS p hp)).isCodeTable, rfl, #[], more, rfl, by rw [Array.empty_append]; exact nw⟩)
          · exact .inl (stays b o h e)
        · intro b o e
          by_cases h : b ∈ cs.map (·.2)
          · obtain ⟨p, hp, rfl⟩ := isT h
            obtain ⟨more, nw⟩ := now p hp
            exact ⟨_, nw⟩
          · exact ⟨o, stays b o h e⟩
  have tabT : ∀ p ∈ cs, p.2 ∈ cs.map (·.2) := fun p hp => List.mem_map.mpr ⟨p, hp, rfl⟩
  cases hk : K.lookup a with
  | some o =>
    have e := KX a o hk
    rw [ha] at e
    cases e
    refine main (fun b => if b ∈ cs.map (·.2) then some (.tbl #[]) else none) (fun p hp => if_pos (tabT p hp)) (fun b => ?_) (.inr ⟨_, vs.toArray, _, hk, rfl, rfl, rfl, by rw [List.size_toArray, lenV]; exact hl, by simpa using rv⟩) (fun b u z => ?_) (fun b z => ?_) (fun z => absurd (if_neg aT) z)
    · by_cases h : b ∈ cs.map (·.2)
      · exact .inr (.inl h)
      · exact .inl (if_neg h)
    · by_cases h : b ∈ cs.map (·.2)
      · have z' := (if_pos h).symm.trans z
        cases z'
        exact empty h
      · cases (if_neg h).symm.trans z
    · by_cases h : b ∈ cs.map (·.2)
      · exact .inr h
      · exact absurd (if_neg h) z
  | none =>
    have na : ∀ p ∈ cs, p.2 ≠ a := fun p hp e => aT (e ▸ tabT p hp)
    refine main (fun b => if b = a then some (.frz { cls := .type "list", data := .seq vs.toArray } (.lst (ns.map V.int))) else if b ∈ cs.map (·.2) then some (.tbl #[]) else none) ?_ ?_ (.inl (.inr ⟨{ cls := .type "list", data := .seq vs.toArray }, if_pos rfl⟩)) ?_ ?_ (fun _ => hk)
    · intro p hp
      exact (if_neg (na p hp)).trans (if_pos (tabT p hp))
    · intro b
      by_cases h : b = a
      · exact .inr (.inr ⟨_, _, if_pos h⟩)
      · by_cases h2 : b ∈ cs.map (·.2)
        · exact .inr (.inl h2)
        · exact .inl ((if_neg h).trans (if_neg h2))
    · intro b u z
      by_cases h : b = a
      · have z' := (if_pos h).symm.trans z
        cases z'
        subst h
        exact ⟨ha, by rw [List.length_map]; exact hl, vs, _, rv, ha⟩
      · have z1 := (if_neg h).symm.trans z
        by_cases h2 : b ∈ cs.map (·.2)
        · have z' := (if_pos h2).symm.trans z1
          cases z'
          exact empty h2
        · cases (if_neg h2).symm.trans z1
    · intro b z
      by_cases h : b = a
      · exact .inl h
      · by_cases h2 : b ∈ cs.map (·.2)
        · exact .inr h2
        · exact absurd ((if_neg h).trans (if_neg h2)) z
end Lk
set_option Elab.async false
set_option linter.all false
set_option maxRecDepth 100000
set_option maxHeartbeats 0
namespace K6
open PySem PySem.Spec PyProof.Rows L2 Lk
abbrev sInit : Stmt := inClass (top 1) 0
section
variable {P : Program} {w : World} {K : PySem.W.Frag} {mg : Str → Option Value} {base : Heap} {f : Addr} {fd : FuncData}
theorem scInit : FnScope ["self", "value"] ["self", "value"] (defScope sInit) := ⟨rfl, rfl, rfl, by decide +kernel, rfl, by decide +kernel, by decide +kernel⟩
theorem ok_init {fI : Addr} {fdI : FuncData} (F : Fun K "__init__" "LotError.__init__" sInit fI fdI) : FnOk P w K mg base CX0 1 fI fdI ["self", "value"] (spInitV K fI) := by
  refine F.ok scInit (fun vs H Q E h => ?_) (fun cdv A outer s H vs Q E hr h => ?_)
  · obtain ⟨a, C, v, rfl, _⟩ := h
    rfl
  · obtain ⟨a, C, v, rfl, T, ha, k⟩ := h
    refine ⟨_, pss_one (ps_ost (pv 0) (pv 1)), ?_⟩
    exact ⟨_, rfl, _, rfl, a, C, rfl, T.oex, T.noV, .inl ⟨ha, fun d hd nd => k d hd nd⟩⟩
end
/-! ### what is read off the head of the class Circle -/
theorem fn_obj {K : PySem.W.Frag} {f : Addr} (h : PySem.W.isFn K (.ref f) = true) : ∃ of, K.lookup f = some of ∧ of.cls = .type "function" := by
  unfold PySem.W.isFn PySem.W.typeIn at h
  cases e : K.lookup f with
  | none => simp [e] at h
  | some o => exact ⟨o, rfl, by simpa [e] using h⟩
theorem ns_at {K : PySem.W.Frag} {h : Heap} {N : Addr} {mg : Str → Option Value} {n : Str} {v : Value} (X : K.In h) (G : h.Ns N mg) (e : PySem.W.nsIn K N n = some (some v)) : mg n = some v := by
  obtain ⟨o, es, ep, ho, hd, _, hf⟩ := G
  unfold PySem.W.nsIn at e
  split at e
  · rename_i c d es' n' sl q
    have := X _ _ q
    rw [ho] at this
    cases this
    cases hd
    split at e
    · rename_i en he
      rw [← hf]
      unfold nsFind findBy
      rw [← Array.find?_toList, he]
      cases e
      rfl
    · split at e <;> cases e
  · cases e
/-- a class with an own __eq__ at f and no __ne__ -/
def neB (K : PySem.W.Frag) (C f : Addr) : Bool := match K.lookup C with
  | some ⟨.type c, _, .cls cd, sl⟩ => (match cd.mro, sl.toList with
    | [.ref D, .type t], [_, _, _, _, some (.builtin _), _] => decide (c = "type") && (decide (D = C) && (decide (t = "object") && (!cd.hasDel && (PySem.W.nsOkIn K cd.ns && (He.eqO (PySem.W.nsIn K cd.ns "__eq__") (some (some (.ref f))) && He.eqO (PySem.W.nsIn K cd.ns "__ne__") (some none))))))
    | _, _ => false)
  | _ => false
theorem neB_ok {K : PySem.W.Frag} {C f : Addr} (h : neB K C f = true) (hf : PySem.W.isFn K (.ref f) = true) : NeC K C f := by
  intro hp x ob X hx hc
  unfold neB at h
  split at h
  · rename_i c dd cd sl ho
    split at h
    · rename_i D t k0 k1 k2 k3 n k5 hm hs
      obtain ⟨h1, h⟩ := He.ba h
      obtain ⟨h2, h⟩ := He.ba h
      obtain ⟨h3, h⟩ := He.ba h
      obtain ⟨h4, h⟩ := He.ba h
      obtain ⟨h5, h⟩ := He.ba h
      obtain ⟨h6, h7⟩ := He.ba h
      obtain rfl := of_decide_eq_true h1
      obtain rfl := of_decide_eq_true h2
      obtain rfl := of_decide_eq_true h3
      obtain ⟨nm, bs, mro, ns, qn, hd, sn, sub, ab, col, del⟩ := cd
      have hdel : del = false := by simpa using h4
      dsimp only at hm h5 h6 h7
      subst hm hdel
      have hsl : sl = #[k0, k1, k2, k3, some (.builtin n), k5] := by
        obtain ⟨l⟩ := sl
        simp only at hs
        rw [hs]
      subst hsl
      have hfn : ∃ of, K.lookup f = some of ∧ of.cls = .type "function" := fn_obj hf
      obtain ⟨of, l1, l2⟩ := hfn
      have G : hp.Ns ns (hp.nsMap ns) := .of_isNs (PySem.W.isNs_of_in X h5)
      exact ⟨ob, of, nm, qn, ns, bs, hd, sn, sub, ab, col, dd, k0, k1, k2, k3, k5, n, hp.nsMap ns, _, hx, hc, X _ _ ho, G, ns_at X G (He.eqO_ok h6), X _ _ l1, l2, PySem.F.cmp_object.mro, PySem.F.cmp_object.eq.lookup, PySem.W.ns_none_of X G (He.eqO_ok h7)⟩
    · cases h
  · cases h
def isiB (K : PySem.W.Frag) (C : Addr) : Bool := He.eqO (PySem.W.findIn K (.ref C) "__class__") (some (some (.builtin "object.__class__"))) && (decide (PySem.W.mroIn K C (.type "object") = some true) && decide (PySem.W.kitOne K (.ref C) (.ref C) = some true))
def glB (K : PySem.W.Frag) : Bool := He.eqO (PySem.W.specialIn K (.builtin "object.__class__") "__get__") (some (some (.builtin "getset_descriptor.__get__"))) && decide (PySem.W.takesIn K (.builtin "object.__class__") = some true)
theorem isiB_ok {K : PySem.W.Frag} {C : Addr} (cl : Cls K C) (g : glB K = true) (h : isiB K C = true) : IsiC K C := by
  obtain ⟨g1, g2⟩ := He.ba g
  obtain ⟨h1, h⟩ := He.ba h
  obtain ⟨h2, h3⟩ := He.ba h
  exact ⟨fun H a dx fs e => .base (.ins e cl (He.eqO_ok h1) (He.eqO_ok g1) (of_decide_eq_true g2) (of_decide_eq_true h2)), of_decide_eq_true h3⟩
def noB (K : PySem.W.Frag) (C : Addr) : Bool := plainTys.all fun t => decide (PySem.W.kitOne K (.type t) (.ref C) = some false) && PySem.W.notFirst K C (.type t)
theorem noB_ok {K : PySem.W.Frag} {C : Addr} (h : noB K C = true) : NoC K C :=
  ⟨fun t ht => of_decide_eq_true (He.ba (List.all_eq_true.mp h t ht)).1, fun t ht => (He.ba (List.all_eq_true.mp h t ht)).2⟩
end K6
set_option Elab.async false
set_option linter.all false
set_option maxRecDepth 100000
set_option maxHeartbeats 0
namespace K6
open PySem PySem.Spec PyProof.Rows L2 Lk
/-! ### the head: what is looked at behind the top -/
def nxtO (o : Obj) : List Addr := match o.data with
  | .cls cd => [cd.ns]
  | .func fd => He.refV fd.code ++ He.refV fd.defaults
  | _ => []
def nxtD (o : Obj) : List Addr := match o.data with
  | .dict es _ => es.toList.flatMap fun e => He.refV e.val
  | _ => []
def step1 (n : Obj → List Addr) (g : Addr → Option Obj) (as : List Addr) : List Addr := as.flatMap fun a => match g a with
  | some o => n o
  | none => []
def as1 (g : Addr → Option Obj) : List Addr := step1 nxtD g [mainGlobals]
def as2 (g : Addr → Option Obj) : List Addr := step1 nxtO g (as1 g)
def as3 (g : Addr → Option Obj) : List Addr := step1 nxtD g (as2 g)
def as4 (g : Addr → Option Obj) : List Addr := step1 nxtO g (as3 g)
def asK (g : Addr → Option Obj) : List Addr := mainGlobals :: (as1 g ++ (as2 g ++ (as3 g ++ as4 g)))
theorem ba3 {a b c : Bool} (h : (a && (b && c)) = true) : a = true ∧ b = true ∧ c = true := by
  obtain ⟨h1, h2⟩ := He.ba h
  exact ⟨h1, He.ba h2⟩
def gC (K : PySem.W.Frag) : Addr := He.ga K "Circle"
def tfD : List He.Defn := [("_law_is_circle_right", none), ("_law_is_lot_due", none), ("_law_right", none)]
/-- the code objects and their tables; the tables and the names that stand in them -/
def csK (K : PySem.W.Frag) : List (Addr × Addr) := tfD.map (He.cT K)
def tT (K : PySem.W.Frag) : List (Addr × Str) := tfD.map fun x => ((He.cT K x).2, (x.1 ++ (".<locals>." : Str)) ++ ("<lambda>" : Str))
def distB (K : PySem.W.Frag) : Bool := tfD.all fun x => tfD.all fun y => decide (x = y) || !decide ((He.cT K x).2 = (He.cT K y).2)
theorem lamT_of {K : PySem.W.Frag} (h : distB K = true) {x : He.Defn} (hx : x ∈ tfD) : LamT (tT K) (He.cT K x).2 x.1 := by
  refine ⟨List.mem_map.mpr ⟨x, hx, rfl⟩, fun p hp e => ?_⟩
  obtain ⟨y, hy, rfl⟩ := List.mem_map.mp hp
  have := List.all_eq_true.mp (List.all_eq_true.mp h x hx) y hy
  rcases Bool.or_eq_true_iff.mp this with z | z
  · rw [of_decide_eq_true z]
  · rw [Bool.not_eq_true'] at z
    exact absurd e.symm (of_decide_eq_false z)
def exB (K : PySem.W.Frag) : Bool := rowB K veMro "LotError" && (rowB K (.ref (lowA K) :: veMro) "BadNames" && (rowB K (.ref (lowA K) :: veMro) "BadLot" && (PySem.W.isFn K (.ref (iniA K)) && (glB K && (decide (PySem.W.exmOne K (.ref (He.ga K "BadNames")) (.ref (lowA K)) = some true) && (decide (PySem.W.exmOne K (.ref (He.ga K "BadLot")) (.ref (lowA K)) = some true) && (isiB K (gC K) && (noB K (gC K) && (neB K (gC K) (He.ma K (gC K) "__eq__") && (distB K))))))))))
def dx0 : He.DefD := ⟨("law", none), "law", "law", defArgs sLaw, defBody sLaw, defScope sLaw, [], []⟩
def dx1 : He.DefD := ⟨("_law_right", none), "_law_right", "_law_right", defArgs sRight, defBody sRight, defScope sRight, [], []⟩
def dx2 : He.DefD := ⟨("Circle", some "__init__"), "__init__", "Circle.__init__", defArgs sCircInit, defBody sCircInit, defScope sCircInit, [], []⟩
def dx3 : He.DefD := ⟨("LotError", some "__init__"), "__init__", "LotError.__init__", defArgs sInit, defBody sInit, defScope sInit, [], []⟩
def dx4 : He.DefD := ⟨("_law_heard", none), "_law_heard", "_law_heard", defArgs sHeard, defBody sHeard, defScope sHeard, [], []⟩
def dx5 : He.DefD := ⟨("_law_names", none), "_law_names", "_law_names", defArgs sNames, defBody sNames, defScope sNames, [], []⟩
def dx6 : He.DefD := ⟨("_law_take", none), "_law_take", "_law_take", defArgs sTake, defBody sTake, defScope sTake, [], []⟩
def dx7 : He.DefD := ⟨("_law_some", none), "_law_some", "_law_some", defArgs sSome, defBody sSome, defScope sSome, [], []⟩
def dx8 : He.DefD := ⟨("_law_a_lot", none), "_law_a_lot", "_law_a_lot", defArgs sALot, defBody sALot, defScope sALot, [], []⟩
def dx9 : He.DefD := ⟨("_law_lot_of", none), "_law_lot_of", "_law_lot_of", defArgs sLotOf, defBody sLotOf, defScope sLotOf, [], []⟩
def dx10 : He.DefD := ⟨("are_names", none), "are_names", "are_names", defArgs sAreNames, defBody sAreNames, defScope sAreNames, [], []⟩
def dx11 : He.DefD := ⟨("is_name", none), "is_name", "is_name", defArgs sIsName, defBody sIsName, defScope sIsName, [], []⟩
def dx12 : He.DefD := ⟨("Circle", some "__len__"), "__len__", "Circle.__len__", defArgs sCircLen, defBody sCircLen, defScope sCircLen, [], []⟩
def dx13 : He.DefD := ⟨("lots", none), "lots", "lots", defArgs sLots, defBody sLots, defScope sLots, [], []⟩
def dx14 : He.DefD := ⟨("_law_all_lots", none), "_law_all_lots", "_law_all_lots", defArgs sAllLots, defBody sAllLots, defScope sAllLots, [], []⟩
def dx15 : He.DefD := ⟨("Circle", some "__eq__"), "__eq__", "Circle.__eq__", defArgs sCircEq, defBody sCircEq, defScope sCircEq, [], []⟩
def dx16 : He.DefD := ⟨("Circle", some "__contains__"), "__contains__", "Circle.__contains__", defArgs sCircIn, defBody sCircIn, defScope sCircIn, [], []⟩
def dx17 : He.DefD := ⟨("_law_odd", none), "_law_odd", "_law_odd", defArgs sOdd, defBody sOdd, defScope sOdd, [], []⟩
def dx18 : He.DefD := ⟨("_law_of", none), "_law_of", "_law_of", defArgs sOf, defBody sOf, defScope sOf, [], []⟩
def dx19 : He.DefD := ⟨("_law_bent", none), "_law_bent", "_law_bent", defArgs sBent, defBody sBent, defScope sBent, [], []⟩
def dx20 : He.DefD := ⟨("_law_is_circle_right", none), "_law_is_circle_right", "_law_is_circle_right", defArgs sLCircR, defBody sLCircR, defScope sLCircR, [], []⟩
def dx21 : He.DefD := ⟨("_law_are_names", none), "_law_are_names", "_law_are_names", defArgs sLAreNames, defBody sLAreNames, defScope sLAreNames, [], []⟩
def dx22 : He.DefD := ⟨("_law_is_lot_due", none), "_law_is_lot_due", "_law_is_lot_due", defArgs sLLotDue, defBody sLLotDue, defScope sLLotDue, [], []⟩
def dx23 : He.DefD := ⟨("Circle", some "rest"), "rest", "Circle.rest", defArgs sCRest, defBody sCRest, defScope sCRest, [], []⟩
def dx24 : He.DefD := ⟨("refuse_lot", none), "refuse_lot", "refuse_lot", defArgs sRefLot, defBody sRefLot, defScope sRefLot, [], []⟩
def dx25 : He.DefD := ⟨("is_lot", none), "is_lot", "is_lot", defArgs sIsLot, defBody sIsLot, defScope sIsLot, [], []⟩
def dx26 : He.DefD := ⟨("less", none), "less", "less", defArgs sPLess, defBody sPLess, defScope sPLess, [], []⟩
def dx27 : He.DefD := ⟨("both", none), "both", "both", defArgs sBoth, defBody sBoth, defScope sBoth, [], []⟩
def dx28 : He.DefD := ⟨("common", none), "common", "common", defArgs sCommon, defBody sCommon, defScope sCommon, [], []⟩
def dx29 : He.DefD := ⟨("either", none), "either", "either", defArgs sEither, defBody sEither, defScope sEither, [], []⟩
def dx30 : He.DefD := ⟨("Circle", some "lot"), "lot", "Circle.lot", defArgs sCLot, defBody sCLot, defScope sCLot, [], []⟩
def dx31 : He.DefD := ⟨("_law_is_lot", none), "_law_is_lot", "_law_is_lot", defArgs sLIsLot, defBody sLIsLot, defScope sLIsLot, [], []⟩
def dx32 : He.DefD := ⟨("_law_are_lots_right", none), "_law_are_lots_right", "_law_are_lots_right", defArgs sLLotsR, defBody sLLotsR, defScope sLLotsR, [], []⟩
def dx33 : He.DefD := ⟨("_law_both", none), "_law_both", "_law_both", defArgs sLBoth, defBody sLBoth, defScope sLBoth, [], []⟩
def dx34 : He.DefD := ⟨("_law_cells", none), "_law_cells", "_law_cells", defArgs sCells, defBody sCells, defScope sCells, [], []⟩
def dx35 : He.DefD := ⟨("_law_pot", none), "_law_pot", "_law_pot", defArgs sPot, defBody sPot, defScope sPot, [], []⟩
def fn : List He.DefD := [dx0, dx1, dx2, dx3, dx4, dx5, dx6, dx7, dx8, dx9, dx10, dx11, dx12, dx13, dx14, dx15, dx16, dx17, dx18, dx19, dx20, dx21, dx22, dx23, dx24, dx25, dx26, dx27, dx28, dx29, dx30, dx31, dx32, dx33, dx34, dx35]
def fa : List He.Fa := [.glo "law", .glo "_law_right", .glo "_law_heard", .glo "_law_names", .glo "_law_take", .glo "_law_some", .glo "_law_a_lot", .glo "_law_lot_of", .glo "are_names", .glo "is_name", .glo "lots", .glo "_law_all_lots", .glo "_law_odd", .glo "_law_of", .glo "_law_bent", .glo "_law_is_circle_right", .glo "_law_are_names", .glo "_law_is_lot_due", .glo "refuse_lot", .glo "is_lot", .glo "less", .glo "both", .glo "common", .glo "either", .glo "_law_is_lot", .glo "_law_are_lots_right", .glo "_law_both", .glo "_law_cells", .glo "_law_pot", .glo "Circle", .free "int", .free "abs", .free "len", .free "list", .free "range", .free "max", .free "min", .free "all", .free "any", .free "repr", .free "isinstance", .free "enumerate", .free "ValueError", .free "str", .free "tuple", .free "set", .free "sum", .free "sorted", .free "zip", .free "dict", .free "bool", .str "LETTERS" "abcdefghijklmnopqrstuvwxyz", .cls "Circle", .noat "Circle" "names", .mkr "Circle", .meth "Circle" "__contains__", .meth "Circle" "__eq__", .meth "Circle" "__len__", .meth "Circle" "lot", .meth "Circle" "rest"]
def Kg (g : Addr → Option Obj) : PySem.W.Frag := He.frT g (asK g)
def obK (g : Addr → Option Obj) : He.AlD × Bool := (He.obsD fa fn (Kg g), exB (Kg g) && He.tabsB g tfD (Kg g))
/-- what is told of the head's heap: facts, classes, the tables, empty and not in K -/
structure SaysY (h : Heap) (K : PySem.W.Frag) : Prop where
  d : He.obsD fa fn K = He.valD fn
  ex : exB K = true
  hd : ∀ x ∈ tfD, PySem.W.codeHdIn K (He.cT K x).1 (He.cT K x).2 = true
  out : ∀ x ∈ tfD, K.lookup (He.cT K x).2 = none
  empty : ∀ x ∈ tfD, h.get? (He.cT K x).2 = some { cls := .none, data := .fields #[] }
theorem saysY_of {h : Heap} (e : obK h.get? = (He.valD fn, true)) : SaysY h (Kg h.get?) := by
  have e1 : He.obsD fa fn (Kg h.get?) = He.valD fn := congrArg (fun z : He.AlD × Bool => z.1) e
  have e2 : (exB (Kg h.get?) && He.tabsB h.get? tfD (Kg h.get?)) = true := congrArg (fun z : He.AlD × Bool => z.2) e
  obtain ⟨h1, h2⟩ := He.ba e2
  generalize hK : Kg h.get? = K at e1 h1 h2 ⊢
  have each : ∀ x ∈ tfD, PySem.W.codeHdIn K (He.cT K x).1 (He.cT K x).2 = true ∧ K.lookup (He.cT K x).2 = none ∧ h.get? (He.cT K x).2 = some { cls := .none, data := .fields #[] } := fun x hx => by
    obtain ⟨h3, h4⟩ := He.ba (List.all_eq_true.mp h2 x hx)
    cases q : h.get? (He.cT K x).2 with
    | none =>
      rw [q] at h4
      cases h4
    | some o =>
      rw [q] at h4
      refine ⟨h3, ?_, by rw [He.emptyTab_eq h4]⟩
      rw [← hK] at q ⊢
      exact He.frT_none q h4
  exact ⟨e1, h1, fun x hx => (each x hx).1, fun x hx => (each x hx).2.1, fun x hx => (each x hx).2.2⟩
def hk : PySem.W.Hook where
  α := He.AlD × Bool
  obs := fun s => obK s.heap.get?
  val := fun _ => (He.valD fn, true)
  says := fun _ h => ∃ K : PySem.W.Frag, K.In h ∧ SaysY h K
  of := fun _ _ e => ⟨_, He.frT_in, saysY_of e⟩
  keeps := fun _ _ _ ⟨K, hK, c⟩ k => ⟨K, PySem.W.Frag.In.keeps hK k, ⟨c.d, c.ex, c.hd, c.out, fun x hx => k _ _ (c.empty x hx)⟩⟩
theorem fun_of {K : PySem.W.Frag} {x q : Str} {st : Stmt} {f : Addr} {fd : FuncData} (F : FunD K x q (defArgs st) (defBody st) (defScope st) [] [] f fd) : Fun K x q st f fd := by
  obtain ⟨⟨oc, od, dV, kV, doc, pm, an, cdv, ct, osl, e, lk, hcd, hd, _⟩, kp⟩ := F
  rcases hd with ⟨_, rfl⟩ | ⟨h, _⟩
  · exact ⟨⟨oc, od, kV, doc, pm, an, cdv, ct, osl, e, lk, hcd⟩, kp⟩
  · exact absurd rfl h
theorem facts {P : Program} {w : World} {K : PySem.W.Frag} {h : Heap} {mg : Str → Option Value} {f : Addr} (X : K.In h) (G : h.Ns mainGlobals mg) (hfa : mg ("law" : Str) = some (.ref f)) (cY : SaysY h K) :
    ∃ fd : FuncData, (∀ (s : Shared) (v : Value), BindsTo s fd ⟨[v], []⟩ [("script", v)]) ∧ (∀ p ∈ csK K, h.get? p.2 = some { cls := .none, data := .fields #[] }) ∧ (∀ p ∈ csK K, K.lookup p.2 = none) ∧ (∀ p ∈ csK K, PySem.W.CodeHd h p.1 p.2) ∧
      ∀ base : Heap, K.In base → base.Ns mainGlobals mg → (∀ p ∈ csK K, LamX.TabB base mg p.1 p.2) → FnG P w K mg base 10 f fd ["script"] (spLaw K (tT K)) := by
  have cD : He.SaysD fa fn K := cY.d
  obtain ⟨fdx0, Dx0⟩ := cD.def_ 0 (d := dx0) rfl
  have Fx0 : Fun K "law" "law" sLaw (He.fAd K dx0.at_) fdx0 := fun_of Dx0
  have mx0 : mg "law" = some (.ref (He.fAd K dx0.at_)) := He.glo_ok X G (cD.fact 0 (f := .glo "law") rfl)
  obtain ⟨fdx1, Dx1⟩ := cD.def_ 1 (d := dx1) rfl
  have bx1 := FunD.bindsN (ps := ["pot"]) Dx1 fun _ _ _ _ _ _ us hl => match us, hl with | [_], _ => rfl
  have Fx1 : Fun K "_law_right" "_law_right" sRight (He.fAd K dx1.at_) fdx1 := fun_of Dx1
  have mx1 : mg "_law_right" = some (.ref (He.fAd K dx1.at_)) := He.glo_ok X G (cD.fact 1 (f := .glo "_law_right") rfl)
  obtain ⟨fdx2, Dx2⟩ := cD.def_ 2 (d := dx2) rfl
  have bx2 := FunD.bindsN (ps := ["self", "names"]) Dx2 fun _ _ _ _ _ _ us hl => match us, hl with | [_, _], _ => rfl
  have Fx2 : Fun K "__init__" "Circle.__init__" sCircInit (He.fAd K dx2.at_) fdx2 := fun_of Dx2
  obtain ⟨fdx3, Dx3⟩ := cD.def_ 3 (d := dx3) rfl
  have bx3 := FunD.bindsN (ps := ["self", "value"]) Dx3 fun _ _ _ _ _ _ us hl => match us, hl with | [_, _], _ => rfl
  have Fx3 : Fun K "__init__" "LotError.__init__" sInit (He.fAd K dx3.at_) fdx3 := fun_of Dx3
  obtain ⟨fdx4, Dx4⟩ := cD.def_ 4 (d := dx4) rfl
  have bx4 := FunD.bindsN (ps := ["call"]) Dx4 fun _ _ _ _ _ _ us hl => match us, hl with | [_], _ => rfl
  have Fx4 : Fun K "_law_heard" "_law_heard" sHeard (He.fAd K dx4.at_) fdx4 := fun_of Dx4
  have mx4 : mg "_law_heard" = some (.ref (He.fAd K dx4.at_)) := He.glo_ok X G (cD.fact 2 (f := .glo "_law_heard") rfl)
  obtain ⟨fdx5, Dx5⟩ := cD.def_ 5 (d := dx5) rfl
  have bx5 := FunD.bindsN (ps := ["pot", "few", "upmost"]) Dx5 fun _ _ _ _ _ _ us hl => match us, hl with | [_, _, _], _ => rfl
  have Fx5 : Fun K "_law_names" "_law_names" sNames (He.fAd K dx5.at_) fdx5 := fun_of Dx5
  have mx5 : mg "_law_names" = some (.ref (He.fAd K dx5.at_)) := He.glo_ok X G (cD.fact 3 (f := .glo "_law_names") rfl)
  obtain ⟨fdx6, Dx6⟩ := cD.def_ 6 (d := dx6) rfl
  have bx6 := FunD.bindsN (ps := ["pot", "upto"]) Dx6 fun _ _ _ _ _ _ us hl => match us, hl with | [_, _], _ => rfl
  have Fx6 : Fun K "_law_take" "_law_take" sTake (He.fAd K dx6.at_) fdx6 := fun_of Dx6
  have mx6 : mg "_law_take" = some (.ref (He.fAd K dx6.at_)) := He.glo_ok X G (cD.fact 4 (f := .glo "_law_take") rfl)
  obtain ⟨fdx7, Dx7⟩ := cD.def_ 7 (d := dx7) rfl
  have bx7 := FunD.bindsN (ps := ["pot", "pool", "amount"]) Dx7 fun _ _ _ _ _ _ us hl => match us, hl with | [_, _, _], _ => rfl
  have Fx7 : Fun K "_law_some" "_law_some" sSome (He.fAd K dx7.at_) fdx7 := fun_of Dx7
  have mx7 : mg "_law_some" = some (.ref (He.fAd K dx7.at_)) := He.glo_ok X G (cD.fact 5 (f := .glo "_law_some") rfl)
  obtain ⟨fdx8, Dx8⟩ := cD.def_ 8 (d := dx8) rfl
  have bx8 := FunD.bindsN (ps := ["pot", "names", "few"]) Dx8 fun _ _ _ _ _ _ us hl => match us, hl with | [_, _, _], _ => rfl
  have Fx8 : Fun K "_law_a_lot" "_law_a_lot" sALot (He.fAd K dx8.at_) fdx8 := fun_of Dx8
  have mx8 : mg "_law_a_lot" = some (.ref (He.fAd K dx8.at_)) := He.glo_ok X G (cD.fact 6 (f := .glo "_law_a_lot") rfl)
  obtain ⟨fdx9, Dx9⟩ := cD.def_ 9 (d := dx9) rfl
  have bx9 := FunD.bindsN (ps := ["names", "some"]) Dx9 fun _ _ _ _ _ _ us hl => match us, hl with | [_, _], _ => rfl
  have Fx9 : Fun K "_law_lot_of" "_law_lot_of" sLotOf (He.fAd K dx9.at_) fdx9 := fun_of Dx9
  have mx9 : mg "_law_lot_of" = some (.ref (He.fAd K dx9.at_)) := He.glo_ok X G (cD.fact 7 (f := .glo "_law_lot_of") rfl)
  obtain ⟨fdx10, Dx10⟩ := cD.def_ 10 (d := dx10) rfl
  have bx10 := FunD.bindsN (ps := ["some"]) Dx10 fun _ _ _ _ _ _ us hl => match us, hl with | [_], _ => rfl
  have Fx10 : Fun K "are_names" "are_names" sAreNames (He.fAd K dx10.at_) fdx10 := fun_of Dx10
  have mx10 : mg "are_names" = some (.ref (He.fAd K dx10.at_)) := He.glo_ok X G (cD.fact 8 (f := .glo "are_names") rfl)
  obtain ⟨fdx11, Dx11⟩ := cD.def_ 11 (d := dx11) rfl
  have bx11 := FunD.bindsN (ps := ["value"]) Dx11 fun _ _ _ _ _ _ us hl => match us, hl with | [_], _ => rfl
  have Fx11 : Fun K "is_name" "is_name" sIsName (He.fAd K dx11.at_) fdx11 := fun_of Dx11
  have mx11 : mg "is_name" = some (.ref (He.fAd K dx11.at_)) := He.glo_ok X G (cD.fact 9 (f := .glo "is_name") rfl)
  obtain ⟨fdx12, Dx12⟩ := cD.def_ 12 (d := dx12) rfl
  have bx12 := FunD.bindsN (ps := ["self"]) Dx12 fun _ _ _ _ _ _ us hl => match us, hl with | [_], _ => rfl
  have Fx12 : Fun K "__len__" "Circle.__len__" sCircLen (He.fAd K dx12.at_) fdx12 := fun_of Dx12
  obtain ⟨fdx13, Dx13⟩ := cD.def_ 13 (d := dx13) rfl
  have bx13 := FunD.bindsN (ps := ["circle"]) Dx13 fun _ _ _ _ _ _ us hl => match us, hl with | [_], _ => rfl
  have Fx13 : Fun K "lots" "lots" sLots (He.fAd K dx13.at_) fdx13 := fun_of Dx13
  have mx13 : mg "lots" = some (.ref (He.fAd K dx13.at_)) := He.glo_ok X G (cD.fact 10 (f := .glo "lots") rfl)
  obtain ⟨fdx14, Dx14⟩ := cD.def_ 14 (d := dx14) rfl
  have bx14 := FunD.bindsN (ps := ["names"]) Dx14 fun _ _ _ _ _ _ us hl => match us, hl with | [_], _ => rfl
  have Fx14 : Fun K "_law_all_lots" "_law_all_lots" sAllLots (He.fAd K dx14.at_) fdx14 := fun_of Dx14
  have mx14 : mg "_law_all_lots" = some (.ref (He.fAd K dx14.at_)) := He.glo_ok X G (cD.fact 11 (f := .glo "_law_all_lots") rfl)
  obtain ⟨fdx15, Dx15⟩ := cD.def_ 15 (d := dx15) rfl
  have bx15 := FunD.bindsN (ps := ["self", "other"]) Dx15 fun _ _ _ _ _ _ us hl => match us, hl with | [_, _], _ => rfl
  have Fx15 : Fun K "__eq__" "Circle.__eq__" sCircEq (He.fAd K dx15.at_) fdx15 := fun_of Dx15
  obtain ⟨fdx16, Dx16⟩ := cD.def_ 16 (d := dx16) rfl
  have bx16 := FunD.bindsN (ps := ["self", "value"]) Dx16 fun _ _ _ _ _ _ us hl => match us, hl with | [_, _], _ => rfl
  have Fx16 : Fun K "__contains__" "Circle.__contains__" sCircIn (He.fAd K dx16.at_) fdx16 := fun_of Dx16
  obtain ⟨fdx17, Dx17⟩ := cD.def_ 17 (d := dx17) rfl
  have bx17 := FunD.bindsN (ps := ["pot"]) Dx17 fun _ _ _ _ _ _ us hl => match us, hl with | [_], _ => rfl
  have Fx17 : Fun K "_law_odd" "_law_odd" sOdd (He.fAd K dx17.at_) fdx17 := fun_of Dx17
  have mx17 : mg "_law_odd" = some (.ref (He.fAd K dx17.at_)) := He.glo_ok X G (cD.fact 12 (f := .glo "_law_odd") rfl)
  obtain ⟨fdx18, Dx18⟩ := cD.def_ 18 (d := dx18) rfl
  have bx18 := FunD.bindsN (ps := ["pot", "some"]) Dx18 fun _ _ _ _ _ _ us hl => match us, hl with | [_, _], _ => rfl
  have Fx18 : Fun K "_law_of" "_law_of" sOf (He.fAd K dx18.at_) fdx18 := fun_of Dx18
  have mx18 : mg "_law_of" = some (.ref (He.fAd K dx18.at_)) := He.glo_ok X G (cD.fact 13 (f := .glo "_law_of") rfl)
  obtain ⟨fdx19, Dx19⟩ := cD.def_ 19 (d := dx19) rfl
  have bx19 := FunD.bindsN (ps := ["pot", "value"]) Dx19 fun _ _ _ _ _ _ us hl => match us, hl with | [_, _], _ => rfl
  have Fx19 : Fun K "_law_bent" "_law_bent" sBent (He.fAd K dx19.at_) fdx19 := fun_of Dx19
  have mx19 : mg "_law_bent" = some (.ref (He.fAd K dx19.at_)) := He.glo_ok X G (cD.fact 14 (f := .glo "_law_bent") rfl)
  obtain ⟨fdx20, Dx20⟩ := cD.def_ 20 (d := dx20) rfl
  have bx20 := FunD.bindsN (ps := ["value"]) Dx20 fun _ _ _ _ _ _ us hl => match us, hl with | [_], _ => rfl
  have Fx20 : Fun K "_law_is_circle_right" "_law_is_circle_right" sLCircR (He.fAd K dx20.at_) fdx20 := fun_of Dx20
  have mx20 : mg "_law_is_circle_right" = some (.ref (He.fAd K dx20.at_)) := He.glo_ok X G (cD.fact 15 (f := .glo "_law_is_circle_right") rfl)
  obtain ⟨fdx21, Dx21⟩ := cD.def_ 21 (d := dx21) rfl
  have bx21 := FunD.bindsN (ps := ["value"]) Dx21 fun _ _ _ _ _ _ us hl => match us, hl with | [_], _ => rfl
  have Fx21 : Fun K "_law_are_names" "_law_are_names" sLAreNames (He.fAd K dx21.at_) fdx21 := fun_of Dx21
  have mx21 : mg "_law_are_names" = some (.ref (He.fAd K dx21.at_)) := He.glo_ok X G (cD.fact 16 (f := .glo "_law_are_names") rfl)
  obtain ⟨fdx22, Dx22⟩ := cD.def_ 22 (d := dx22) rfl
  have bx22 := FunD.bindsN (ps := ["names", "ring", "value"]) Dx22 fun _ _ _ _ _ _ us hl => match us, hl with | [_, _, _], _ => rfl
  have Fx22 : Fun K "_law_is_lot_due" "_law_is_lot_due" sLLotDue (He.fAd K dx22.at_) fdx22 := fun_of Dx22
  have mx22 : mg "_law_is_lot_due" = some (.ref (He.fAd K dx22.at_)) := He.glo_ok X G (cD.fact 17 (f := .glo "_law_is_lot_due") rfl)
  obtain ⟨fdx23, Dx23⟩ := cD.def_ 23 (d := dx23) rfl
  have bx23 := FunD.bindsN (ps := ["self", "lot"]) Dx23 fun _ _ _ _ _ _ us hl => match us, hl with | [_, _], _ => rfl
  have Fx23 : Fun K "rest" "Circle.rest" sCRest (He.fAd K dx23.at_) fdx23 := fun_of Dx23
  obtain ⟨fdx24, Dx24⟩ := cD.def_ 24 (d := dx24) rfl
  have bx24 := FunD.bindsN (ps := ["circle", "value"]) Dx24 fun _ _ _ _ _ _ us hl => match us, hl with | [_, _], _ => rfl
  have Fx24 : Fun K "refuse_lot" "refuse_lot" sRefLot (He.fAd K dx24.at_) fdx24 := fun_of Dx24
  have mx24 : mg "refuse_lot" = some (.ref (He.fAd K dx24.at_)) := He.glo_ok X G (cD.fact 18 (f := .glo "refuse_lot") rfl)
  obtain ⟨fdx25, Dx25⟩ := cD.def_ 25 (d := dx25) rfl
  have bx25 := FunD.bindsN (ps := ["circle", "value"]) Dx25 fun _ _ _ _ _ _ us hl => match us, hl with | [_, _], _ => rfl
  have Fx25 : Fun K "is_lot" "is_lot" sIsLot (He.fAd K dx25.at_) fdx25 := fun_of Dx25
  have mx25 : mg "is_lot" = some (.ref (He.fAd K dx25.at_)) := He.glo_ok X G (cD.fact 19 (f := .glo "is_lot") rfl)
  obtain ⟨fdx26, Dx26⟩ := cD.def_ 26 (d := dx26) rfl
  have bx26 := FunD.bindsN (ps := ["lot", "other"]) Dx26 fun _ _ _ _ _ _ us hl => match us, hl with | [_, _], _ => rfl
  have Fx26 : Fun K "less" "less" sPLess (He.fAd K dx26.at_) fdx26 := fun_of Dx26
  have mx26 : mg "less" = some (.ref (He.fAd K dx26.at_)) := He.glo_ok X G (cD.fact 20 (f := .glo "less") rfl)
  obtain ⟨fdx27, Dx27⟩ := cD.def_ 27 (d := dx27) rfl
  have bx27 := FunD.bindsN (ps := ["circle", "one", "other"]) Dx27 fun _ _ _ _ _ _ us hl => match us, hl with | [_, _, _], _ => rfl
  have Fx27 : Fun K "both" "both" sBoth (He.fAd K dx27.at_) fdx27 := fun_of Dx27
  have mx27 : mg "both" = some (.ref (He.fAd K dx27.at_)) := He.glo_ok X G (cD.fact 21 (f := .glo "both") rfl)
  obtain ⟨fdx28, Dx28⟩ := cD.def_ 28 (d := dx28) rfl
  have bx28 := FunD.bindsN (ps := ["lot", "other"]) Dx28 fun _ _ _ _ _ _ us hl => match us, hl with | [_, _], _ => rfl
  have Fx28 : Fun K "common" "common" sCommon (He.fAd K dx28.at_) fdx28 := fun_of Dx28
  have mx28 : mg "common" = some (.ref (He.fAd K dx28.at_)) := He.glo_ok X G (cD.fact 22 (f := .glo "common") rfl)
  obtain ⟨fdx29, Dx29⟩ := cD.def_ 29 (d := dx29) rfl
  have bx29 := FunD.bindsN (ps := ["circle", "one", "other"]) Dx29 fun _ _ _ _ _ _ us hl => match us, hl with | [_, _, _], _ => rfl
  have Fx29 : Fun K "either" "either" sEither (He.fAd K dx29.at_) fdx29 := fun_of Dx29
  have mx29 : mg "either" = some (.ref (He.fAd K dx29.at_)) := He.glo_ok X G (cD.fact 23 (f := .glo "either") rfl)
  obtain ⟨fdx30, Dx30⟩ := cD.def_ 30 (d := dx30) rfl
  have bx30 := FunD.bindsN (ps := ["self", "some"]) Dx30 fun _ _ _ _ _ _ us hl => match us, hl with | [_, _], _ => rfl
  have Fx30 : Fun K "lot" "Circle.lot" sCLot (He.fAd K dx30.at_) fdx30 := fun_of Dx30
  obtain ⟨fdx31, Dx31⟩ := cD.def_ 31 (d := dx31) rfl
  have bx31 := FunD.bindsN (ps := ["names", "value"]) Dx31 fun _ _ _ _ _ _ us hl => match us, hl with | [_, _], _ => rfl
  have Fx31 : Fun K "_law_is_lot" "_law_is_lot" sLIsLot (He.fAd K dx31.at_) fdx31 := fun_of Dx31
  have mx31 : mg "_law_is_lot" = some (.ref (He.fAd K dx31.at_)) := He.glo_ok X G (cD.fact 24 (f := .glo "_law_is_lot") rfl)
  obtain ⟨fdx32, Dx32⟩ := cD.def_ 32 (d := dx32) rfl
  have bx32 := FunD.bindsN (ps := ["pot", "names", "ring"]) Dx32 fun _ _ _ _ _ _ us hl => match us, hl with | [_, _, _], _ => rfl
  have Fx32 : Fun K "_law_are_lots_right" "_law_are_lots_right" sLLotsR (He.fAd K dx32.at_) fdx32 := fun_of Dx32
  have mx32 : mg "_law_are_lots_right" = some (.ref (He.fAd K dx32.at_)) := He.glo_ok X G (cD.fact 25 (f := .glo "_law_are_lots_right") rfl)
  obtain ⟨fdx33, Dx33⟩ := cD.def_ 33 (d := dx33) rfl
  have bx33 := FunD.bindsN (ps := ["one", "other"]) Dx33 fun _ _ _ _ _ _ us hl => match us, hl with | [_, _], _ => rfl
  have Fx33 : Fun K "_law_both" "_law_both" sLBoth (He.fAd K dx33.at_) fdx33 := fun_of Dx33
  have mx33 : mg "_law_both" = some (.ref (He.fAd K dx33.at_)) := He.glo_ok X G (cD.fact 26 (f := .glo "_law_both") rfl)
  obtain ⟨fdx34, Dx34⟩ := cD.def_ 34 (d := dx34) rfl
  have bx34 := FunD.bindsN (ps := ["script", "limit"]) Dx34 fun _ _ _ _ _ _ us hl => match us, hl with | [_, _], _ => rfl
  have Fx34 : Fun K "_law_cells" "_law_cells" sCells (He.fAd K dx34.at_) fdx34 := fun_of Dx34
  have mx34 : mg "_law_cells" = some (.ref (He.fAd K dx34.at_)) := He.glo_ok X G (cD.fact 27 (f := .glo "_law_cells") rfl)
  obtain ⟨fdx35, Dx35⟩ := cD.def_ 35 (d := dx35) rfl
  have bx35 := FunD.bindsN (ps := ["script", "place"]) Dx35 fun _ _ _ _ _ _ us hl => match us, hl with | [_, _], _ => rfl
  have Fx35 : Fun K "_law_pot" "_law_pot" sPot (He.fAd K dx35.at_) fdx35 := fun_of Dx35
  have mx35 : mg "_law_pot" = some (.ref (He.fAd K dx35.at_)) := He.glo_ok X G (cD.fact 28 (f := .glo "_law_pot") rfl)
  have mCi : mg "Circle" = some (.ref (gC K)) := He.glo_ok X G (cD.fact 29 (f := .glo "Circle") rfl)
  have T : Bl mg := ⟨He.free_ok X G (cD.fact 30 (f := .free "int") rfl), He.free_ok X G (cD.fact 31 (f := .free "abs") rfl), He.free_ok X G (cD.fact 32 (f := .free "len") rfl), He.free_ok X G (cD.fact 33 (f := .free "list") rfl), He.free_ok X G (cD.fact 34 (f := .free "range") rfl), He.free_ok X G (cD.fact 35 (f := .free "max") rfl), He.free_ok X G (cD.fact 36 (f := .free "min") rfl), He.free_ok X G (cD.fact 37 (f := .free "all") rfl), He.free_ok X G (cD.fact 38 (f := .free "any") rfl), He.free_ok X G (cD.fact 39 (f := .free "repr") rfl), He.free_ok X G (cD.fact 40 (f := .free "isinstance") rfl), He.free_ok X G (cD.fact 41 (f := .free "enumerate") rfl), He.free_ok X G (cD.fact 42 (f := .free "ValueError") rfl)⟩
  have Cc : Cn mg := ⟨He.free_ok X G (cD.fact 43 (f := .free "str") rfl), He.free_ok X G (cD.fact 44 (f := .free "tuple") rfl), He.free_ok X G (cD.fact 45 (f := .free "set") rfl), He.free_ok X G (cD.fact 46 (f := .free "sum") rfl), He.free_ok X G (cD.fact 47 (f := .free "sorted") rfl), He.free_ok X G (cD.fact 48 (f := .free "zip") rfl), He.free_ok X G (cD.fact 49 (f := .free "dict") rfl), He.str_ok X G (cD.fact 51 (f := .str "LETTERS" "abcdefghijklmnopqrstuvwxyz") rfl)⟩
  have hB : mg "bool" = none := He.free_ok X G (cD.fact 50 (f := .free "bool") rfl)
  have clC : Cls K (gC K) := He.cls_ok (cD.fact 52 (f := .cls "Circle") rfl)
  have CC : CircC K (gC K) (He.fAd K dx2.at_) := ⟨clC, He.noat_ok (cD.fact 53 (f := .noat "Circle" "names") rfl), He.mkr_ok (cD.fact 54 (f := .mkr "Circle") rfl)⟩
  have Hcontains : Meth K (gC K) "__contains__" (He.fAd K dx16.at_) := He.meth_ok (cD.fact 55 (f := .meth "Circle" "__contains__") rfl)
  have Mcontains : MethC K (gC K) "__contains__" (He.fAd K dx16.at_) := ⟨Hcontains.at_, Hcontains.fn⟩
  have Heq : Meth K (gC K) "__eq__" (He.fAd K dx15.at_) := He.meth_ok (cD.fact 56 (f := .meth "Circle" "__eq__") rfl)
  have Meq : MethC K (gC K) "__eq__" (He.fAd K dx15.at_) := ⟨Heq.at_, Heq.fn⟩
  have Hlen : Meth K (gC K) "__len__" (He.fAd K dx12.at_) := He.meth_ok (cD.fact 57 (f := .meth "Circle" "__len__") rfl)
  have Mlen : MethC K (gC K) "__len__" (He.fAd K dx12.at_) := ⟨Hlen.at_, Hlen.fn⟩
  have Hlot : Meth K (gC K) "lot" (He.fAd K dx30.at_) := He.meth_ok (cD.fact 58 (f := .meth "Circle" "lot") rfl)
  have Mlot : MethC K (gC K) "lot" (He.fAd K dx30.at_) := ⟨Hlot.at_, Hlot.fn⟩
  have Hrest : Meth K (gC K) "rest" (He.fAd K dx23.at_) := He.meth_ok (cD.fact 59 (f := .meth "Circle" "rest") rfl)
  have Mrest : MethC K (gC K) "rest" (He.fAd K dx23.at_) := ⟨Hrest.at_, Hrest.fn⟩
  have e := hfa.symm.trans mx0
  cases e
  have b := FunD.bindsA (ps := ["script"]) Dx0 fun _ _ _ _ _ _ us hl => match us, hl with | [_], _ => rfl
  obtain ⟨y1, yy⟩ := He.ba cY.ex
  obtain ⟨y2, yy⟩ := He.ba yy
  obtain ⟨y3, yy⟩ := He.ba yy
  obtain ⟨y4, yy⟩ := He.ba yy
  obtain ⟨y5, yy⟩ := He.ba yy
  obtain ⟨y6, yy⟩ := He.ba yy
  obtain ⟨y7, yy⟩ := He.ba yy
  obtain ⟨y8, yy⟩ := He.ba yy
  obtain ⟨y9, yy⟩ := He.ba yy
  obtain ⟨y10, y11⟩ := He.ba yy
  have rL := rowB_ok X G (by decide +kernel) y1
  have rBadNames := rowB_ok X G (ms := .ref (lowA K) :: veMro) (show PySem.HandSPX.refsVE veMro = true by decide +kernel) y2
  have rBadLot := rowB_ok X G (ms := .ref (lowA K) :: veMro) (show PySem.HandSPX.refsVE veMro = true by decide +kernel) y3
  obtain ⟨g1, g2⟩ := He.ba y5
  have eK : ErK K (iniA K) := ⟨beq_iff_eq.mp y4, He.eqO_ok g1, of_decide_eq_true g2⟩
  have eMBadNames : PySem.W.exmOne K (.ref (He.ga K "BadNames")) (.ref (lowA K)) = some true := of_decide_eq_true y6
  have eMBadLot : PySem.W.exmOne K (.ref (He.ga K "BadLot")) (.ref (lowA K)) = some true := of_decide_eq_true y7
  have IC : IsiC K (gC K) := isiB_ok clC y5 y8
  have NC : NoC K (gC K) := noB_ok y9
  have NE : NeC K (gC K) (He.fAd K dx15.at_) := neB_ok y10 Meq.fn
  have hxx20 : (("_law_is_circle_right", none) : He.Defn) ∈ tfD := by decide +kernel
  have hmx20 : He.cT K ("_law_is_circle_right", none) ∈ csK K := List.mem_map.mpr ⟨_, hxx20, rfl⟩
  have LTx20 : LamT (tT K) (He.cT K ("_law_is_circle_right", none)).2 "_law_is_circle_right" := lamT_of y11 hxx20
  obtain ⟨ocx20, odx20, dVx20, kVx20, docx20, pmx20, anx20, cdvx20, ctx20, oslx20, ex20, lkx20, hcdx20, _, _⟩ := Dx20.ex
  obtain ⟨cx20, rfl⟩ := He.codeIn_ref hcdx20
  have hcx20 : fdx20.code = .ref (He.cT K ("_law_is_circle_right", none)).1 := by
    have e2 : He.codeOf K ("_law_is_circle_right", none) = cx20 := He.codeOf_eq lkx20 (by rw [ex20])
    show fdx20.code = .ref (He.codeOf K ("_law_is_circle_right", none))
    rw [e2, ex20]
  have hxx22 : (("_law_is_lot_due", none) : He.Defn) ∈ tfD := by decide +kernel
  have hmx22 : He.cT K ("_law_is_lot_due", none) ∈ csK K := List.mem_map.mpr ⟨_, hxx22, rfl⟩
  have LTx22 : LamT (tT K) (He.cT K ("_law_is_lot_due", none)).2 "_law_is_lot_due" := lamT_of y11 hxx22
  obtain ⟨ocx22, odx22, dVx22, kVx22, docx22, pmx22, anx22, cdvx22, ctx22, oslx22, ex22, lkx22, hcdx22, _, _⟩ := Dx22.ex
  obtain ⟨cx22, rfl⟩ := He.codeIn_ref hcdx22
  have hcx22 : fdx22.code = .ref (He.cT K ("_law_is_lot_due", none)).1 := by
    have e2 : He.codeOf K ("_law_is_lot_due", none) = cx22 := He.codeOf_eq lkx22 (by rw [ex22])
    show fdx22.code = .ref (He.codeOf K ("_law_is_lot_due", none))
    rw [e2, ex22]
  have hxx1 : (("_law_right", none) : He.Defn) ∈ tfD := by decide +kernel
  have hmx1 : He.cT K ("_law_right", none) ∈ csK K := List.mem_map.mpr ⟨_, hxx1, rfl⟩
  have LTx1 : LamT (tT K) (He.cT K ("_law_right", none)).2 "_law_right" := lamT_of y11 hxx1
  obtain ⟨ocx1, odx1, dVx1, kVx1, docx1, pmx1, anx1, cdvx1, ctx1, oslx1, ex1, lkx1, hcdx1, _, _⟩ := Dx1.ex
  obtain ⟨cx1, rfl⟩ := He.codeIn_ref hcdx1
  have hcx1 : fdx1.code = .ref (He.cT K ("_law_right", none)).1 := by
    have e2 : He.codeOf K ("_law_right", none) = cx1 := He.codeOf_eq lkx1 (by rw [ex1])
    show fdx1.code = .ref (He.codeOf K ("_law_right", none))
    rw [e2, ex1]
  have of : ∀ {p : Addr × Addr}, p ∈ csK K → ∃ x ∈ tfD, p = He.cT K x := fun hp => by
    obtain ⟨x, hx, e⟩ := List.mem_map.mp hp
    exact ⟨x, hx, e.symm⟩
  refine ⟨fdx0, fun s v => b s [v] rfl, fun p hp => ?_, fun p hp => ?_, fun p hp => ?_, fun base _ _ TB => ?_⟩
  · obtain ⟨x, hx, rfl⟩ := of hp
    exact cY.empty x hx
  · obtain ⟨x, hx, rfl⟩ := of hp
    exact cY.out x hx
  · obtain ⟨x, hx, rfl⟩ := of hp
    exact PySem.W.codeHd_of_K X (cY.hd x hx)
  have Gnames := ok_names (P := P) (w := w) (K := K) (mg := mg) (base := base) Fx5 T Cc.tuple Fx6 bx6 mx6 Fx7 bx7 mx7
  have GaLot := ok_aLot (P := P) (w := w) (K := K) (mg := mg) (base := base) Fx8 T Cc.tuple Fx6 bx6 mx6 Fx7 bx7 mx7 Fx9 bx9 mx9
  have Ginit := ok_init (P := P) (w := w) (K := K) (mg := mg) (base := base) Fx3
  have GisNameV := ok_isNameV (P := P) (w := w) (K := K) (mg := mg) (base := base) Fx11 T Cc
  have GareNamesV := ok_areNamesV (P := P) (w := w) (K := K) (mg := mg) (base := base) Fx10 T Cc GisNameV ⟨Fx11.kp, bx11, mx11⟩
  have GcircX := ok_circX (P := P) (w := w) (K := K) (mg := mg) (base := base) (C := gC K) (CN := He.ga K "BadNames") Fx2 T Cc CC rBadNames.er eK rBadNames.at_ Ginit bx3 GareNamesV ⟨Fx10.kp, bx10, mx10⟩
  have GcircLen := ok_circLen (P := P) (w := w) (K := K) (mg := mg) (base := base) (C := gC K) Fx12 T CC
  have Glots := ok_lots (P := P) (w := w) (K := K) (mg := mg) (base := base) (C := gC K) Fx13 T Cc CC Mlen Fx12 bx12
  have GallLots := ok_allLots (P := P) (w := w) (K := K) (mg := mg) (base := base) Fx14 T Cc
  have GcircEq := ok_circEq (P := P) (w := w) (K := K) (mg := mg) (base := base) (C := gC K) Fx15 T CC IC mCi
  have GcircIn := ok_circIn (P := P) (w := w) (K := K) (mg := mg) (base := base) (C := gC K) Fx16 CC
  have Godd := ok_odd (P := P) (w := w) (K := K) (mg := mg) (base := base) Fx17 T Fx6 bx6 mx6 Fx18 bx18 mx18
  have Gtake := ok_take (P := P) (w := w) (K := K) (mg := mg) (base := base) Fx6 T
  have GofA := ok_ofA (P := P) (w := w) (K := K) (mg := mg) (base := base) Fx18 T Fx6 bx6 mx6
  have Gbent := ok_bent (P := P) (w := w) (K := K) (mg := mg) (base := base) Fx19 T Cc hB ⟨Fx19.kp, bx19, mx19⟩ Gtake ⟨Fx6.kp, bx6, mx6⟩ GofA ⟨Fx18.kp, bx18, mx18⟩
  have GlAreNames := ok_lAreNames (P := P) (w := w) (K := K) (mg := mg) (base := base) Fx21 T Cc
  have GlCircR := ok_lCircR (P := P) (w := w) (K := K) (mg := mg) (base := base) (C := gC K) (CL := lowA K) (T := tT K) (CN := He.ga K "BadNames") (Tb := (He.cT K ("_law_is_circle_right", none)).2) Fx20 T Cc hcx20 (TB _ hmx20) LTx20 CC rBadNames.er eK rBadNames.at_ rL.at_ mCi eMBadNames Fx4 ⟨Fx4.kp, bx4, mx4⟩ GcircX bx2 GlAreNames ⟨Fx21.kp, bx21, mx21⟩ GcircLen Mlen bx12
  have GisLotV := ok_isLotV (P := P) (w := w) (K := K) (mg := mg) (base := base) (C := gC K) Fx25 T Cc CC
  have GrefLotX := ok_refLotX (P := P) (w := w) (K := K) (mg := mg) (base := base) (C := gC K) (CN := He.ga K "BadLot") Fx24 rBadLot.er eK rBadLot.at_ Ginit bx3 GisLotV ⟨Fx25.kp, bx25, mx25⟩
  have Gpless := ok_pless (P := P) (w := w) (K := K) (mg := mg) (base := base) Fx26 Cc.tuple
  have GcRest := ok_cRest (P := P) (w := w) (K := K) (mg := mg) (base := base) (C := gC K) Fx23 CC GrefLotX ⟨Fx24.kp, bx24, mx24⟩ Gpless ⟨Fx26.kp, bx26, mx26⟩
  have Gcommon := ok_common (P := P) (w := w) (K := K) (mg := mg) (base := base) Fx28 Cc.tuple
  have Gboth := ok_both (P := P) (w := w) (K := K) (mg := mg) (base := base) (C := gC K) Fx27 GrefLotX ⟨Fx24.kp, bx24, mx24⟩ Gcommon ⟨Fx28.kp, bx28, mx28⟩
  have GcLot := ok_cLot (P := P) (w := w) (K := K) (mg := mg) (base := base) (C := gC K) (CN := He.ga K "BadNames") Fx30 T Cc CC rBadNames.er eK rBadNames.at_ Ginit bx3
  have Geither := ok_either (P := P) (w := w) (K := K) (mg := mg) (base := base) (C := gC K) Fx29 CC GrefLotX ⟨Fx24.kp, bx24, mx24⟩ GcLot Hlot bx30
  have GlotOf := ok_lotOf (P := P) (w := w) (K := K) (mg := mg) (base := base) Fx9 Cc.tuple
  have GlIsLotV := ok_lIsLotV (P := P) (w := w) (K := K) (mg := mg) (base := base) Fx31 T Cc GlotOf ⟨Fx9.kp, bx9, mx9⟩
  have GlLotDue := ok_lLotDue (P := P) (w := w) (K := K) (mg := mg) (base := base) (C := gC K) (CL := lowA K) (T := tT K) (CN := He.ga K "BadLot") (Tb := (He.cT K ("_law_is_lot_due", none)).2) Fx22 T Cc hcx22 (TB _ hmx22) LTx22 CC rBadLot.er eK rBadLot.at_ rL.at_ eMBadLot Fx4 ⟨Fx4.kp, bx4, mx4⟩ GcRest Hrest bx23 Gboth ⟨Fx27.kp, bx27, mx27⟩ Geither ⟨Fx29.kp, bx29, mx29⟩ GlIsLotV ⟨Fx31.kp, bx31, mx31⟩
  have GofT := ok_ofT (P := P) (w := w) (K := K) (mg := mg) (base := base) Fx18 T Gtake ⟨Fx6.kp, bx6, mx6⟩
  have G_law_both := ok__law_both (P := P) (w := w) (K := K) (mg := mg) (base := base) Fx33 Cc.tuple
  have GlLotsR := ok_lLotsR (P := P) (w := w) (K := K) (mg := mg) (base := base) (C := gC K) Fx32 T Cc CC GaLot ⟨Fx8.kp, bx8, mx8⟩ Gtake ⟨Fx6.kp, bx6, mx6⟩ GofT ⟨Fx18.kp, bx18, mx18⟩ GcLot Hlot bx30 GcRest Hrest bx23 Gboth ⟨Fx27.kp, bx27, mx27⟩ Geither ⟨Fx29.kp, bx29, mx29⟩ G_law_both ⟨Fx33.kp, bx33, mx33⟩ GlotOf ⟨Fx9.kp, bx9, mx9⟩
  have Gright := ok_right (P := P) (w := w) (K := K) (mg := mg) (base := base) (C := gC K) (CL := lowA K) (T := tT K) (CN := He.ga K "BadNames") (Tb := (He.cT K ("_law_right", none)).2) Fx1 T Cc hcx1 (TB _ hmx1) LTx1 CC IC NC rBadNames.er eK rBadNames.at_ rL.at_ mCi eMBadNames Fx4 ⟨Fx4.kp, bx4, mx4⟩ Gnames ⟨Fx5.kp, bx5, mx5⟩ GaLot ⟨Fx8.kp, bx8, mx8⟩ GcircX bx2 GcircLen Mlen bx12 Glots ⟨Fx13.kp, bx13, mx13⟩ GallLots ⟨Fx14.kp, bx14, mx14⟩ GcircEq Meq bx15 NE GcircIn Mcontains bx16 Godd ⟨Fx17.kp, bx17, mx17⟩ Gbent ⟨Fx19.kp, bx19, mx19⟩ GlCircR ⟨Fx20.kp, bx20, mx20⟩ GlLotDue ⟨Fx22.kp, bx22, mx22⟩ GcLot Hlot bx30 GlLotsR ⟨Fx32.kp, bx32, mx32⟩
  exact ok_law (P := P) (w := w) (K := K) (mg := mg) (base := base) (T := tT K) Fx0 T Gright ⟨Fx1.kp, bx1, mx1⟩ Fx34 bx34 mx34 Fx35 bx35 mx35
theorem walkTs {l : PySem.W.OpenLaw} {n lev : Nat} {q : Program} {loose : List Str} {XP : (Str → Option Value) → Heap → Prop} {YP : World → Heap → Prop} {d : DefRec} {cs : PySem.W.Frag → List (Addr × Addr)} {sp : PySem.W.Frag → Sp} {x : Str}
    (hn : l.most = some n) (hn2 : n ≤ sizeLine) (hdf : d.params.defaults = []) (room : Room lev callerA)
    (F : ∀ (w : World) (mg : Str → Option Value) (fa : Addr) (h : Heap), YP w h → h.Ns mainGlobals mg → mg d.name = some (.ref fa) →
      ∃ (K : PySem.W.Frag) (fD : FuncData), K.In h ∧ (∀ (s : Shared) (u : Value), BindsTo s fD ⟨[u], []⟩ [(x, u)]) ∧ (∀ p ∈ cs K, h.get? p.2 = some { cls := .none, data := .fields #[] }) ∧ (∀ p ∈ cs K, K.lookup p.2 = none) ∧ (∀ p ∈ cs K, PySem.W.CodeHd h p.1 p.2) ∧
        ∀ base : Heap, K.In base → base.Ns mainGlobals mg → (∀ p ∈ cs K, LamX.TabB base mg p.1 p.2) → FnG l.prog w K mg base lev fa fD [x] (sp K))
    (hsp : ∀ (K : PySem.W.Frag) (H : Hp) (a : Addr) (ns : List Int), ns.length ≤ n → (∀ p ∈ cs K, H p.2 = some (.tbl #[])) → SqL K H a (ns.map V.int) → sp K [.ref a] H (fun v _ => v = .bl true) E0) :
    PySem.W.WalkO q loose XP YP l.row.toRowW d [] (fun f vs => PySem.call f vs) := by
  refine Att.attach_call hn hdf ?_
  intro w s₀ s₁ mg mb fa o pm cd doc a vs ns G Y ho hd hcd hmg hobj hints hlen hg
  obtain ⟨K, fD, KX, hb, e, u, C, hF⟩ := F w mg fa _ Y G.T.g hmg
  exact gcallTs KX G.T.g G.T.b G.T.builtins G.T.nolimit hg e u C G.T.bmain hobj hints (Nat.le_trans hlen hn2) room hF hb fun H hO hS => hsp _ H a ns hlen hO hS
abbrev R0 : PySem.W.OpenRow := PySem.W.OpenLaw.row PySem.Challenge.rw_lotkeepers_k01_whole_circles_and_lots
def ob (s : PySem.W.SharedT) : He.AlD × Bool := obK (HandSHeadRun.getT s)
theorem ob_eq (s : PySem.W.SharedT) : ob s = hk.obs s.abs := by
  have e : HandSHeadRun.getT s = s.abs.heap.get? := funext (HandSHeadRun.getT_eq s)
  show obK (HandSHeadRun.getT s) = obK s.abs.heap.get?
  rw [e]
def others0 : List Str := ["LotError", "BadNames", "BadLot", "LETTERS", "is_name", "are_names", "Circle", "lots", "both", "either", "is_lot", "refuse_lot", "less", "common", "_law_pot", "_law_take", "_law_of", "_law_some", "_law_cells", "_law_heard", "_law_odd", "_law_bent", "_law_names", "_law_lot_of", "_law_both", "_law_all_lots", "_law_is_lot", "_law_a_lot", "_law_are_names", "_law_is_circle_right"]
def others1 : List Str := ["_law_are_lots_right", "_law_is_lot_due", "_law_right"]
def others : List Str := others0 ++ others1
end K6
set_option Elab.async false
set_option linter.all false
set_option maxRecDepth 100000
set_option maxHeartbeats 0
namespace K6
open PySem PySem.Spec PyProof.Rows L2 Lk
theorem run (w : World) : HandSHeadRun.RunEq R0 (PySem.W.view R0.prog [37]) hk ob 13200 others w := by
  intro os
  kernel_rfl
end K6
set_option Elab.async false
set_option linter.all false
set_option maxRecDepth 100000
set_option maxHeartbeats 0
open PySem PySem.W PySem.Calls PyProof.Rows in
theorem PySem.Challenge.cw_lotkeepers_k01_whole_circles_and_lots_holds : PySem.Challenge.rw_lotkeepers_k01_whole_circles_and_lots.Holds := by
  w_on; o_law
  refine HandSHeadRun.head_any (r := OpenLaw.row PySem.Challenge.rw_lotkeepers_k01_whole_circles_and_lots) (q := view (OpenLaw.row PySem.Challenge.rw_lotkeepers_k01_whole_circles_and_lots).prog [37]) (H := K6.hk) (ob := K6.ob) (M := 13200) (loose := K6.others) (d := HandSHeadRun.topDef (OpenLaw.row PySem.Challenge.rw_lotkeepers_k01_whole_circles_and_lots).prog 37) (kwd := []) K6.ob_eq
    (by kernel_rfl) (fun s => by kernel_rfl) K6.run (by kernel_rfl) (by kernel_rfl) (by kernel_rfl) (by rfl) (by first | assumption | decide +kernel) (by decide +kernel) ⟨rfl, rfl, rfl, rfl, rfl, by decide +kernel⟩ ?hw ?hc
  case hw => w_witness2
  case hc =>
    refine K6.walkTs (l := PySem.Challenge.rw_lotkeepers_k01_whole_circles_and_lots) (n := 63) (lev := 10) (x := "script") (cs := K6.csK) (sp := fun K => K6.spLaw K (K6.tT K)) rfl (by decide) (by kernel_rfl) ⟨rfl, by decide, by decide⟩ ?F fun K H a ns hl hT hS => ⟨a, ns, rfl, hS, hl, fun p hp => ?_, fun _ => rfl⟩
    rotate_left
    · obtain ⟨x, hx, rfl⟩ := List.mem_map.mp hp
      exact LamX.TabS.nil (hT _ (List.mem_map.mpr ⟨x, hx, rfl⟩))
    intro w mg fa h Y G hmg0
    obtain ⟨K, KX, c⟩ := Y
    have hmg : mg ("law" : PySem.Str) = some (.ref fa) := by
      have e : (HandSHeadRun.topDef (OpenLaw.row PySem.Challenge.rw_lotkeepers_k01_whole_circles_and_lots).prog 37).name = ("law" : PySem.Str) := by kernel_rfl
      rw [← e]
      exact hmg0
    obtain ⟨fd, hb, h1, h2, h3, hF⟩ := K6.facts (P := (PySem.Challenge.rw_lotkeepers_k01_whole_circles_and_lots).prog) (w := w) KX G hmg c
    exact ⟨K, fd, KX, hb, h1, h2, h3, hF⟩
