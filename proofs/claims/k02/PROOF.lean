import PyProof.Rows.All
import Wide.All
import OpenK.AllK
import Wide.FinOn
import HandS.ForMost
import HandS.Dict
import HandS.ExcInit
import HandS.IsInst
import KE.KExcIs
import HandS.Wide
import HandS.Conv
import PySem.Challenge.RW_lotkeepers_k02_whole_families_of_lots
import KE.KStateDown
import HandS.Head0
import HandS.Head1
import HandS.Head2
import HandS.HeadEnd
import HandS.HeadHook1
import HandS.HeadHook2
import HandS.Walk
import HandS.Strs
import HandS.OwnEq
import PyProof.InstNe
import HandS.Deep
import PyProof.AutoSeq1
import PyProof.Rows.RegFStrParts
import HandS.Zip
import HandS.Text
import HandS.Iter
import HandS.CallLocal
import HandS.DictComp
import HandS.WordsDict
import KE.GoesZip
import KE.GoesMore
import PyProof.EnumMake
import HandS.Sort
import KE.KDictPairs
import KE.LtSeq
import KE.KSortTup
import HandS.SortRule
import HandS.SortInts
import PyProof.EqAt
import HandS.WideBits
import HandS.Lambda
import HandS.ExcValue
import HandS.WordsExc
import HandS.Small
import KE.GoesEnum
import HandS.TupSets
import HandS.SetFor
import HandS.NoneIn
import HandS.TupLe
import HandS.List
set_option Elab.async false
set_option linter.all false
set_option maxRecDepth 100000
set_option maxHeartbeats 4000000
/-! Part A: defs that are called while no repr is under way; reading nested data; repr of it. -/
namespace Lk
open PySem PySem.Spec PyProof.Rows L2

/-! ### a def's promise, where the guards around are known to be none -/
abbrev NoG (A : Around) : Prop := A.guards = some []
structure FnG (P : Program) (w : World) (K : PySem.W.Frag) (mg : Str → Option Value) (base : Heap)
    (lev : Nat) (fA : Addr) (fD : FuncData) (pars : List Str) (sp : Sp) : Prop where
  many : ∀ vs H Q, sp vs H Q E0 → vs.length = pars.length
  goes : ∀ (A : Around) (around : List Env) (s : Shared) (H : Hp) (args : Args) (us : List Value) (vs : List V) (Q : VK),
    Room lev A → NoG A → Env0 P w K mg base A around s H → BindsTo s fD args (pars.zip us) → Vals vs us → sp vs H Q E0 →
    codeAny (model P w) A (.call (.ref fA) args) (CR CX0 around P w H s Q E0) s

theorem FnG.of {P : Program} {w : World} {K : PySem.W.Frag} {mg : Str → Option Value} {base : Heap} {lev : Nat} {fA : Addr}
    {pars N : List Str} {sp : Sp} {nm ql : Str} {st : Stmt} {fD : FuncData}
    (F : Fun K nm ql st fA fD) (S : FnScope N pars (defScope st))
    (many : ∀ vs H Q, sp vs H Q E0 → vs.length = pars.length)
    (body : ∀ (cdv : Value) (A : Around) (around : List Env) (s : Shared) (H : Hp) (vs : List V) (Q : VK),
      Room lev (A.deeper (envOfC ql (defScope st) s.heap.objs.size fA cdv)) → NoG A → sp vs H Q E0 →
      ∃ t, PSs (cxOf CX0 P w K mg base N ql (defScope st) fA cdv A around s H E0).nox (defBody st) t ∧
        t { nx := fun _ H' => Q .non H', rt := Q } (start N vs) H) :
    FnG P w K mg base (lev + 1) fA fD pars sp := by
  obtain ⟨oc, od, kV, doc, pm, an, cdv, ct, osl, rfl, look, code⟩ := F.ex
  constructor
  · exact many
  intro A around s H args us vs Q room noG e0 binds rel want
  have same := many _ _ _ want
  have inK : K.In s.heap := e0.mod.kin.keeps fun b o e => (e0.bs b o e).1
  have free := e0.mod.nolimit.keeps fun b o e => (e0.bs b o e).1
  have kinds : ∀ y ∈ pars.zip us, (defScope st).names.lookup y.1 = some .local ∨
      ((defScope st).names.lookup y.1 = some .cell ∧ ((cellsFrom (s.heap.objs.size + 1) (defScope st).names []).lookup y.1).isSome = true) := by
    rintro ⟨n, v⟩ hy
    rcases S.par n (List.of_mem_zip hy).1 with q | q
    · exact Or.inl q
    · exact Or.inr ⟨q, PySem.W.cellsFrom_some _ _ _ (Or.inl q)⟩
  refine codeAny_call_function room.depth (inK _ _ look) rfl S.co S.gen rfl (PySem.W.codeRec_of inK code) (binds _ _ _ _ ?_)
  refine wpAny_newFunctionEnv_cells S.kind kinds ?_
  intro env he s1 x
  subst he
  refine ⟨free.keeps x.toInCall.keep, codeAny_func ?_⟩
  obtain ⟨t, ht, hq⟩ := body cdv A around s H vs Q (room.deeper _) noG want
  have I := inv_start (CX := CX0) (E := E0) S room.hd e0 same rel x
  have run := ht.nox.run [] s1 (start N vs) H _ I hq
  refine wpAny_mono run ?_ fun e s' hs => hs
  intro fl s' hs
  cases fl with
  | ret u =>
    obtain ⟨v, σ', H', J, rv, q⟩ := hs
    exact ⟨v, H', J.os, J.bare, J.base, J.hok, rv, q⟩
  | next =>
    obtain ⟨σ', H', J, q⟩ := hs
    exact ⟨V.non, H', J.os, J.bare, J.base, J.hok, rfl, q⟩
  | brk => obtain ⟨_, _, _, q⟩ := hs; exact False.elim q
  | cont => obtain ⟨_, _, _, q⟩ := hs; exact False.elim q

/-- a plain promise serves, too -/
theorem FnG.ofOk {P : Program} {w : World} {K : PySem.W.Frag} {mg : Str → Option Value} {base : Heap} {lev : Nat} {fA : Addr}
    {fD : FuncData} {pars : List Str} {sp : Sp} (F : FnOk P w K mg base CX0 lev fA fD pars sp) : FnG P w K mg base lev fA fD pars sp :=
  ⟨fun vs H Q h => F.len vs H Q E0 h, fun A around s H args us vs Q r _ e b v h => F.run A around s H args us vs Q E0 r e b v h⟩

section
variable {X : Cx} {lev : Nat} {fA : Addr} {fD : FuncData} {pars : List Str} {sp : Sp} {x : Str} {e : Expr} {es : List Expr} {t : TA} {p pos : Pos}
theorem pe_gcall (F : FnG X.prog X.w X.K X.mg X.base lev fA fD pars sp) (room : Room lev X.A) (noG : NoG X.A) (hg : Gl X x)
    (hm : X.mg x = some (.ref fA)) (hk : PySem.W.keepIn X.K (.ref fA) = true) (hb : Binds X.K fD pars []) (ha : PA X (e :: es) t)
    (hdb : (x == ("__debug__" : Str)) = false := by decide) (hst : starEach (e :: es) X.env = (false, eval e X.env) :: starEach es X.env := by rfl)
    (hpl : (backTo pos (starEach es X.env)).any (·.1) = false := by rfl) : PE X (.Call (.Name x p) (e :: es) [] pos) (tCall sp [] E0 t) := by
  constructor
  intro pins s σ H Q I want
  refine wpAny_Call_Name_kw (ld_glob I hg hm ?_ hdb)
  refine PySem.W.callWith_K (h₀ := X.base) I.ok.mod.kin hk (thn (ha.run pos pins s σ H _ I want) ?_) hst hpl
  rintro us s1 ⟨vs, H1, I1, rel, q⟩
  refine ⟨I1.kIn, ?_⟩
  have rel2 : Vals (vs ++ []) us := by rw [List.append_nil]; exact rel
  have same : us.length = pars.length := by rw [← rel2.length]; exact F.many _ _ _ q
  have binds : BindsTo s1 fD ⟨us, []⟩ (pars.zip us) := by
    have z := hb s1 us I1.kIn (by simpa using same)
    simpa using z
  refine wpAny_call (codeAny_mono (F.goes X.A X.stack s1 H1 ⟨us, []⟩ us _ Q room noG I1.env0 binds rel2 q) ?_)
  intro r s' hq
  cases r with
  | error er => exact hq.elim
  | ok fl =>
    cases fl with
    | ret u => exact I1.after hq
    | next => exact False.elim hq
    | brk => exact False.elim hq
    | cont => exact False.elim hq
end

/-! ### the end of a law: from its promise to the row -/
theorem gcall {P : Program} {w : World} {K : PySem.W.Frag} {mg mb : Str → Option Value} {lev : Nat} {fa a : Addr} {fD : FuncData} {x : Str} {sp : Sp}
    {s0 : Shared} {vs : List Value} {ns : List Int} (KX : K.In s0.heap) (hns : s0.heap.Ns mainGlobals mg) (hb : s0.heap.Ns builtinsNs mb)
    (hbb : ∀ x : Str, x ≠ "__name__" → mb x = bootBuiltins x) (hlim : s0.heap.NoLimit) (hg : s0.gens = #[])
    (ha : s0.heap.get? a = some { cls := .type "list", data := .seq vs.toArray }) (hi : IntsAre vs ns) (hl : ns.length ≤ sizeLine) (room : Room lev callerA)
    (F : ∀ base : Heap, K.In base → base.Ns mainGlobals mg → FnG P w K mg base lev fa fD [x] sp)
    (hbind : ∀ (s : Shared) (u : Value), BindsTo s fD ⟨[u], []⟩ [(x, u)])
    (hsp : ∀ H : Hp, Only H → SqL K H a (ns.map V.int) → sp [.ref a] H (fun v _ => v = .bl true) E0) :
    codeAny (model P w) callerA (.call (.ref fa) ⟨[.ref a], []⟩) (fun r s' => r = .ok (.ret (.bool true)) ∧ OldK s0.heap s'.heap ∧ s'.os = s0.os ∧ AllBare s'.gens) s0 := by
  have rv := vals_ints hi
  have lenV := hi.length
  have main : ∀ H : Hp, Only H → SqL K H a (ns.map V.int) → HOk P w H s0.heap → (∀ b, H b ≠ none → b = a) → (H a ≠ none → K.lookup a = none) →
      codeAny (model P w) callerA (.call (.ref fa) ⟨[.ref a], []⟩) (fun r s' => r = .ok (.ret (.bool true)) ∧ OldK s0.heap s'.heap ∧ s'.os = s0.os ∧ AllBare s'.gens) s0 := by
    intro H hO hS hok hA hK
    have look : ∀ {b : Addr} {o : Obj}, s0.heap.get? b = some o → H b = none → (hidT s0.heap H).get? b = some o := by
      intro b o e n
      exact hidT_get e n
    have noD : ∀ {b : Addr} {o : Obj} {es : Array DictEntry} {ep : Nat}, s0.heap.get? b = some o → o.data = .dict es ep → H b = none := by
      intro b o es ep e d
      cases q : H b with
      | none => rfl
      | some u =>
        have e' : b = a := hA b (by rw [q]; simp)
        subst e'
        rw [ha] at e
        cases e
        cases (show Data.seq vs.toArray _ = Data.dict es ep from d)
    have ns2 : ∀ {b : Addr} {m : Str → Option Value}, s0.heap.Ns b m → (hidT s0.heap H).Ns b m := by
      rintro b m ⟨o, es, ep, e, d, r⟩
      exact ⟨o, es, ep, look e (noD e d), d, r⟩
    have inB : K.In (hidT s0.heap H) := by
      intro b o e
      refine look (KX b o e) ?_
      cases q : H b with
      | none => rfl
      | some u =>
        have e' : b = a := hA b (by rw [q]; simp)
        subst e'
        rw [hK (by rw [q]; simp)] at e
        cases e
    have lim2 : (hidT s0.heap H).NoLimit := by
      obtain ⟨mc, h1, h2⟩ := hlim
      exact ⟨mc, ns2 h1, h2⟩
    have e0 : Env0 P w K mg (hidT s0.heap H) callerA [] s0 H :=
      ⟨rfl, ⟨inB, ns2 hns, ⟨mb, ns2 hb, hbb⟩, lim2⟩, fun b o e => of_hidT e, Nat.le_of_eq (hidT_size _ _), trivial,
        fun b hb => absurd (show b ∈ ([] : List Addr) from hb) (by simp), hok, .of_eq hg⟩
    refine codeAny_mono ((F _ inB (ns2 hns)).goes callerA [] s0 H ⟨[.ref a], []⟩ [.ref a] [.ref a] _ room rfl e0 (hbind s0 (.ref a)) (.cons rfl .nil) (hsp H hO hS)) ?_
    intro r s' h
    cases r with
    | error e => exact h.elim
    | ok fl =>
      cases fl with
      | next => exact False.elim h
      | brk => exact False.elim h
      | cont => exact False.elim h
      | ret u =>
        obtain ⟨v, H', os, bare, un, hok', r', q⟩ := h
        cases (show v = .bl true from q)
        cases (show u = Value.bool true from r')
        refine ⟨rfl, OldK.of_keep ?_, os, bare⟩
        intro b o e
        cases q : H b with
        | none => exact un.keep b o e q (fun z => absurd (show b ∈ ([] : List Addr) from z) (by simp)) (by simp)
        | some u =>
          rcases hO b with z | ⟨ob, xs, z⟩
          · rw [q] at z; cases z
          · obtain ⟨e1, _⟩ := hok b _ z
            obtain ⟨e2, _⟩ := hok' b _ (un.frzs b ob _ z)
            rw [e] at e1
            cases e1
            exact e2
  cases hk : K.lookup a with
  | some o =>
    have e := KX a o hk
    rw [ha] at e
    cases e
    exact main (fun _ => none) (fun _ => .inl rfl) (.inr ⟨_, vs.toArray, _, hk, rfl, rfl, rfl, by rw [List.size_toArray, lenV]; exact hl, by simpa using rv⟩)
      (fun b u z => nomatch (show (none : Option HO) = some u from z)) (fun b z => absurd rfl z) (fun z => absurd rfl z)
  | none =>
    refine main (fun b => if b = a then some (.frz { cls := .type "list", data := .seq vs.toArray } (.lst (ns.map V.int))) else none) ?_ (.inl (.inr ⟨_, if_pos rfl⟩)) ?_ ?_ (fun _ => hk)
    · intro b
      by_cases hb : b = a
      · exact .inr ⟨_, _, if_pos hb⟩
      · exact .inl (if_neg hb)
    · intro b u z
      by_cases hb : b = a
      · have z' := (if_pos hb).symm.trans z
        cases z'
        subst hb
        exact ⟨ha, by rw [List.length_map]; exact hl, vs, _, rv, ha⟩
      · cases (if_neg hb).symm.trans z
    · intro b z
      by_cases hb : b = a
      · exact hb
      · exact absurd (if_neg hb) z
end Lk

namespace Lk
open PySem PySem.Spec PyProof.Rows L2
/-- from the promise of `law` to the row -/
theorem walkG {l : PySem.W.OpenLaw} {n lev : Nat} {q : Program} {loose : List Str} {XP : (Str → Option Value) → Heap → Prop} {YP : World → Heap → Prop}
    {d : DefRec} {K : Params → PySem.W.Frag} {sp : PySem.W.Frag → Sp} {x : Str}
    (hn : l.most = some n) (hn2 : n ≤ sizeLine) (hdf : d.params.defaults = []) (room : Room lev callerA)
    (hY : ∀ (w : World) (h : Heap), YP w h → (K w.params).In h)
    (F : ∀ (w : World) (mg : Str → Option Value) (fa : Addr) (h : Heap), (K w.params).In h → h.Ns mainGlobals mg → mg d.name = some (.ref fa) →
      ∃ fD : FuncData, (∀ (s : Shared) (u : Value), BindsTo s fD ⟨[u], []⟩ [(x, u)]) ∧
        ∀ base : Heap, (K w.params).In base → base.Ns mainGlobals mg → FnG l.prog w (K w.params) mg base lev fa fD [x] (sp (K w.params)))
    (hsp : ∀ (K : PySem.W.Frag) (H : Hp) (a : Addr) (ns : List Int), ns.length ≤ n → Only H → SqL K H a (ns.map V.int) → sp K [.ref a] H (fun v _ => v = .bl true) E0) :
    PySem.W.WalkO q loose XP YP l.row.toRowW d [] (fun f vs => PySem.call f vs) := by
  refine Att.attach_call hn hdf ?_
  intro w s₀ s₁ mg mb fa o pm cd doc a vs ns G Y ho hd hcd hmg hobj hints hlen hg
  have KX := hY w _ Y
  obtain ⟨fD, hb, hF⟩ := F w mg fa _ KX G.T.g hmg
  exact gcall KX G.T.g G.T.b G.T.builtins G.T.nolimit hg hobj hints (Nat.le_trans hlen hn2) room hF hb fun H hO hS => hsp _ H a ns hlen hO hS
end Lk
set_option Elab.async false
set_option linter.all false
set_option maxRecDepth 100000
set_option maxHeartbeats 4000000
/-! Part B: values that are data through and through, and their repr. -/
namespace Lk
open PySem PySem.Spec PyProof.Rows L2

def keyD : Key → PyData
  | .inl i => .int i
  | .inr x => .str x

mutual
/-- v stands for the data d: lists, tuples and dicts that are tracked, ints, texts -/
inductive DW (H : Hp) : V → PyData → Prop
  | non : DW H .non .none
  | bl (b : Bool) : DW H (.bl b) (.bool b)
  | int (i : Int) : DW H (.int i) (.int i)
  | str (x : Str) : DW H (.str x) (.str x)
  | lst {a : Addr} {xs : List V} {ds : List PyData} : H a = some (.lst xs) → a ≠ sysModules → DWs H xs ds → DW H (.ref a) (.list ds)
  | tup {a : Addr} {xs : List V} {ds : List PyData} : H a = some (.tup xs) → DWs H xs ds → DW H (.ref a) (.tuple ds)
  | dic {a : Addr} {kvs : List (Key × V)} {ps : List (PyData × PyData)} : H a = some (.dK kvs) → DWk H kvs ps → DW H (.ref a) (.dict ps)
inductive DWs (H : Hp) : List V → List PyData → Prop
  | nil : DWs H [] []
  | cons {v : V} {vs : List V} {d : PyData} {ds : List PyData} : DW H v d → DWs H vs ds → DWs H (v :: vs) (d :: ds)
inductive DWk (H : Hp) : List (Key × V) → List (PyData × PyData) → Prop
  | nil : DWk H [] []
  | cons {k : Key} {v : V} {kvs : List (Key × V)} {d : PyData} {ps : List (PyData × PyData)} : DW H v d → DWk H kvs ps → DWk H ((k, v) :: kvs) ((keyD k, d) :: ps)
end

mutual
theorem DW.same {H H' : Hp} (k : Same H H') : ∀ {v : V} {d : PyData}, DW H v d → DW H' v d
  | _, _, .non => .non
  | _, _, .bl b => .bl b
  | _, _, .int i => .int i
  | _, _, .str x => .str x
  | _, _, .lst h n r => .lst (k _ _ h) n (DWs.same k r)
  | _, _, .tup h r => .tup (k _ _ h) (DWs.same k r)
  | _, _, .dic h r => .dic (k _ _ h) (DWk.same k r)
theorem DWs.same {H H' : Hp} (k : Same H H') : ∀ {vs : List V} {ds : List PyData}, DWs H vs ds → DWs H' vs ds
  | _, _, .nil => .nil
  | _, _, .cons h r => .cons (DW.same k h) (DWs.same k r)
theorem DWk.same {H H' : Hp} (k : Same H H') : ∀ {vs : List (Key × V)} {ds : List (PyData × PyData)}, DWk H vs ds → DWk H' vs ds
  | _, _, .nil => .nil
  | _, _, .cons h r => .cons (DW.same k h) (DWk.same k r)
end
theorem DWs.length {H : Hp} : ∀ {vs : List V} {ds : List PyData}, DWs H vs ds → vs.length = ds.length
  | _, _, .nil => rfl
  | _, _, .cons _ r => congrArg (· + 1) (DWs.length r)
theorem DWs.get {H : Hp} : ∀ {vs : List V} {ds : List PyData} {i : Nat} {d : PyData}, DWs H vs ds → ds[i]? = some d → ∃ v, vs[i]? = some v ∧ DW H v d
  | _, _, _, _, .nil, e => by simp at e
  | _, _, 0, _, .cons h _, e => by simp at e; subst e; exact ⟨_, rfl, h⟩
  | _, _, i + 1, _, .cons _ r, e => by
    obtain ⟨v, h1, h2⟩ := DWs.get (i := i) r (by simpa using e)
    exact ⟨v, by simpa using h1, h2⟩
theorem DWs.get' {H : Hp} : ∀ {vs : List V} {ds : List PyData} {i : Nat} {v : V}, DWs H vs ds → vs[i]? = some v → ∃ d, ds[i]? = some d ∧ DW H v d
  | _, _, _, _, .nil, e => by simp at e
  | _, _, 0, _, .cons h _, e => by simp at e; subst e; exact ⟨_, rfl, h⟩
  | _, _, i + 1, _, .cons _ r, e => by
    obtain ⟨v, h1, h2⟩ := DWs.get' (i := i) r (by simpa using e)
    exact ⟨v, by simpa using h1, h2⟩
theorem DWs.append {H : Hp} : ∀ {vs ws : List V} {ds es : List PyData}, DWs H vs ds → DWs H ws es → DWs H (vs ++ ws) (ds ++ es)
  | _, _, _, _, .nil, r => r
  | _, _, _, _, .cons h t, r => .cons h (DWs.append t r)

section
variable {X : Cx} {pins : List (Addr × Obj)} {σ : L2.St} {H : Hp} {s : Shared}
theorem reads_key {P : Program} {w : World} {k : Key} {v : Value} (h : (mixKind P w).is k v = true) : Reads s.heap v (keyD k) [] := by
  rcases keyIs_shape (k := k) (v := v) h with ⟨i, t, rfl, rfl⟩ | ⟨x, t, rfl, rfl⟩
  · exact .int i t
  · exact .str x t
theorem pairs_read {P : Program} {w : World} : ∀ {es : List DictEntry} {vs : List (Key × Value)}, Pairs (mixKind P w) es vs →
    ReadsAll s.heap (es.map (·.key)) (vs.map fun p => keyD p.1) []
  | _, _, .nil => .nil
  | _, _, .cons h _ r => ReadsAll.cons (as := []) (reads_key h) (pairs_read r)
mutual
theorem DW.reads (I : Inv X pins σ H s) : ∀ {v : V} {d : PyData} {u : Value}, DW H v d → RelV v u → ∃ as, Reads s.heap u d as ∧ sysModules ∉ as
  | _, _, _, .non, r => by cases r; exact ⟨_, .none, by simp⟩
  | _, _, _, .bl b, r => by cases r; exact ⟨_, .bool b, by simp⟩
  | _, _, _, .int i, r => by obtain ⟨t, rfl⟩ := r; exact ⟨_, .int i t, by simp⟩
  | _, _, _, .str x, r => by obtain ⟨t, rfl⟩ := r; exact ⟨_, .str x t, by simp⟩
  | _, _, _, .lst (a := a) h n rs, r => by
    cases r
    obtain ⟨_, its, m, rv, e⟩ := (show ObjOk X.prog X.w H s.heap a (.lst _) from I.hok a _ h)
    obtain ⟨as, q, z⟩ := DWs.reads I rs rv
    refine ⟨_, Reads.list e rfl rfl (by simpa using q), ?_⟩
    rw [List.mem_cons]
    rintro (e | e)
    · exact n e.symm
    · exact z e
  | _, _, _, .tup (a := a) h rs, r => by
    cases r
    obtain ⟨_, its, rv, o, e, hc, m, hd⟩ := (show ObjOk X.prog X.w H s.heap a (.tup _) from I.hok a _ h)
    obtain ⟨as, q, z⟩ := DWs.reads I rs rv
    exact ⟨_, Reads.tuple e hc hd (by simpa using q), z⟩
  | _, _, _, .dic (a := a) h rs, r => by
    cases r
    obtain ⟨_, n, vs, kv, o, es, ep, e, ex, hd, _, pr, _⟩ := (show ObjOk X.prog X.w H s.heap a (.dK _) from I.hok a _ h)
    have q := pairs_read (s := s) pr
    obtain ⟨bs, q2, q3, z⟩ := DWk.reads I rs kv pr
    refine ⟨_, Reads.dict (as := []) (bs := bs) e ex.1 hd ?_ q2, ?_⟩
    · rw [← q3]; exact q
    · have n' : a ≠ sysModules := by simpa using n
      show ¬ sysModules ∈ a :: bs
      rw [List.mem_cons]
      rintro (e | e)
      · exact n' e.symm
      · exact z e
theorem DWs.reads (I : Inv X pins σ H s) : ∀ {vs : List V} {ds : List PyData} {us : List Value}, DWs H vs ds → Vals vs us → ∃ as, ReadsAll s.heap us ds as ∧ sysModules ∉ as
  | _, _, _, .nil, r => by cases r; exact ⟨_, .nil, by simp⟩
  | _, _, _, .cons h rs, r => by
    cases r with
    | cons r1 r2 =>
      obtain ⟨as, q1, z1⟩ := DW.reads I h r1
      obtain ⟨bs, q2, z2⟩ := DWs.reads I rs r2
      exact ⟨_, .cons q1 q2, by rw [List.mem_append]; exact fun z => z.elim z1 z2⟩
theorem DWk.reads (I : Inv X pins σ H s) : ∀ {kvs : List (Key × V)} {ps : List (PyData × PyData)} {vs : List (Key × Value)} {es : List DictEntry}, DWk H kvs ps → KV kvs vs →
    Pairs (mixKind X.prog X.w) es vs → ∃ bs, ReadsAll s.heap (es.map (·.val)) (ps.map (·.2)) bs ∧ vs.map (fun p => keyD p.1) = ps.map (·.1) ∧ sysModules ∉ bs
  | _, _, _, _, .nil, r, p => by cases r; cases p; exact ⟨_, .nil, rfl, by simp⟩
  | _, _, _, _, .cons (k := k) h rs, r, p => by
    unfold KV at r
    cases r with
    | cons r1 r2 =>
      cases p with
      | cons p1 p2 p3 =>
        obtain ⟨as, q1, z1⟩ := DW.reads I h r1.2
        obtain ⟨bs, q2, q3, z2⟩ := DWk.reads I rs r2 p3
        rw [← p2] at q1
        refine ⟨_, .cons q1 q2, ?_, by rw [List.mem_append]; exact fun z => z.elim z1 z2⟩
        rw [List.map_cons, List.map_cons, ← r1.1, q3]
end
end

/-- repr of such data -/
theorem call_reprD {X : Cx} (noG : NoG X.A) (hu : X.A.units + 64 < cLine) : CallR X (.builtin "repr") (fun xs H Q => ∃ v d, xs = [v] ∧ DW H v d ∧
    d.showable = true ∧ d.depth ≤ 50 ∧ d.shown.length ≤ sizeLine ∧ Q (.str d.shown) H) := by
  intro pins s σ H xs us Q I r h
  obtain ⟨v, d, rfl, dw, hs, hd, hl, q⟩ := h
  obtain ⟨u, rfl, ru⟩ := r.one
  have fin : ∀ t (s' : Shared), Inv X pins σ H s' → EP X pins σ Q (.str d.shown t) s' := fun t s' J => ⟨.str d.shown, H, J, ⟨t, rfl⟩, q⟩
  have refs : ∀ a, u = .ref a → wpAny (model X.prog X.w) X.A (call (.builtin "repr") [u]) (EP X pins σ Q) X.xe s := by
    rintro a rfl
    obtain ⟨as, q1, z⟩ := DW.reads I dw ru
    exact repr_of_reads' q1 hs (fun _ => z) noG (by omega) (fun _ _ e => e) (fun h' t tk k => fin _ _ (I.kept (t' := tk) k)) hl
  cases dw with
  | non => cases (show u = Value.none from ru); exact PySem.P.repr_of_none (fin _ _ (I.tok _))
  | bl b => cases (show u = Value.bool b from ru); cases b <;> exact PySem.P.repr_of_bool (fin _ _ (I.tok _))
  | int i => obtain ⟨t, rfl⟩ := ru; exact PySem.P.repr_of_int (by simpa [PyData.showable] using hs) (fin _ _ (I.tok _))
  | str x => obtain ⟨t, rfl⟩ := ru; exact PySem.P.repr_of_str (fin _ _ (I.tok _)) hl
  | lst h n r => exact refs _ ru
  | tup h r => exact refs _ ru
  | dic h r => exact refs _ ru
end Lk
set_option Elab.async false
set_option linter.all false
set_option maxRecDepth 100000
set_option maxHeartbeats 4000000
/-! Part C: displays as data; the draws of a law. -/
namespace Lk
open PySem PySem.Spec PyProof.Rows L2
abbrev St := L2.St

/-- what is in H' and was not in H -/
def sub (H H' : Hp) : Hp := fun b => if (H b).isSome = true then none else H' b
theorem sub_of {H H' : Hp} {b : Addr} {o : HO} (h : H b = none) (h' : H' b = some o) : sub H H' b = some o := by
  unfold sub
  rw [h, if_neg (by simp)]
  exact h'
theorem of_sub {H H' : Hp} {b : Addr} {o : HO} (h : sub H H' b = some o) : H b = none ∧ H' b = some o := by
  unfold sub at h
  split at h
  · cases h
  · rename_i n
    refine ⟨?_, h⟩
    cases q : H b with
    | none => rfl
    | some u => rw [q] at n; exact absurd rfl n
theorem sub_same (H H' : Hp) : Same (sub H H') H' := fun _ _ e => (of_sub e).2
/-- a fresh value that stands for d; what was tracked stays -/
def tFr (d : PyData) : TE := fun _ H Q => ∀ v H', Same H H' → DW (sub H H') v d → Q v H'
def tFrs (ds : List PyData) : TA := fun _ H Q => ∀ vs H', Same H H' → DWs (sub H H') vs ds → Q vs H'
theorem same_new {H : Hp} {p : Addr} {o : HO} (h : H p = none) : Same H (upd H p o) := fun b u e => by
  rw [upd_ne (ne_of_none e h)]
  exact e
theorem sub_more {H H1 H2 : Hp} (s : Same H1 H2) : Same (sub H H1) (sub H H2) := fun _ _ e => sub_of (of_sub e).1 (s _ _ (of_sub e).2)
theorem sub_less {H H1 H2 : Hp} (s : Same H H1) : Same (sub H1 H2) (sub H H2) := fun _ _ e => sub_of (s.free (of_sub e).1) (of_sub e).2
theorem sub_new {H H1 : Hp} {p : Addr} {o : HO} (s : Same H H1) (h : H1 p = none) : sub H (upd H1 p o) p = some o := sub_of (s.free h) upd_same

section
variable {X : Cx} {e : Expr} {es : List Expr} {t t' : TE} {d : PyData} {ds : List PyData} {pos : Pos} {j : Nat}
theorem pe_imp (h : PE X e t) (k : ∀ σ H Q, t' σ H Q → t σ H Q) : PE X e t' := ⟨fun pins s σ H Q I q => h.run pins s σ H Q I (k σ H Q q)⟩
theorem pa_imp {t t' : TA} (h : PA X es t) (k : ∀ σ H Q, t' σ H Q → t σ H Q) : PA X es t' := ⟨fun pos pins s σ H Q I q => h.run pos pins s σ H Q I (k σ H Q q)⟩
theorem pd_int {i : Int} : PE X (.Constant (.int i) j pos) (tFr (.int i)) := pe_imp pe_int fun _ H _ q => q _ _ (Same.refl H) (.int i)
theorem pd_bl {b : Bool} : PE X (.Constant (.bool b) j pos) (tFr (.bool b)) := pe_imp pe_bl fun _ H _ q => q _ _ (Same.refl H) (.bl b)
theorem pd_non : PE X (.Constant .none j pos) (tFr .none) := pe_imp pe_non fun _ H _ q => q _ _ (Same.refl H) .non
theorem pd_str {x : Str} : PE X (.Constant (.str x) j pos) (tFr (.str x)) := pe_imp pe_str fun _ H _ q => q _ _ (Same.refl H) (.str x)
theorem pd_neg {i : Int} {p1 : Pos} : PE X (.UnaryOp .USub (.Constant (.int i) j p1) pos) (tFr (.int (-i))) :=
  pe_imp (pe_un un_neg pe_int) fun _ H _ q => ⟨i, rfl, q _ _ (Same.refl H) (.int _)⟩
theorem pds_nil : PA X [] (tFrs []) := pa_imp pa_nil fun _ H _ q => q _ _ (Same.refl H) .nil
theorem pds_cons (ha : PE X e (tFr d)) (hr : PA X es (tFrs ds)) (hs : starEach (e :: es) X.env = (false, eval e X.env) :: starEach es X.env := by rfl) : PA X (e :: es) (tFrs (d :: ds)) :=
  pa_imp (pa_cons ha hr hs) fun _ H _ q => fun v H1 s1 d1 vs H2 s2 d2 => q _ _ (s1.trans s2) (.cons (d1.same (sub_more s2)) (d2.same (sub_less s1)))
theorem few_ok {n : Nat} (h : decide (n ≤ 1000) = true) : n ≤ sizeLine := by
  rw [sizeLine_eq]
  have := of_decide_eq_true h
  omega
theorem pd_tup {c : Nat} (h : PA X es (tFrs ds)) (hl : decide (ds.length ≤ 1000) = true := by rfl) : PE X (.Tuple es c pos) (tFr (.tuple ds)) :=
  pe_imp (pe_tup h) fun _ H _ q => fun vs H1 s1 d1 => ⟨by rw [d1.length]; exact few_ok hl, fun p hp => q _ _ (s1.trans (same_new hp)) (.tup (sub_new s1 hp) (d1.same (sub_more (same_new hp))))⟩
/-- a list that is displayed, its address told not to be that of sys.modules -/
def tLstN (t : TA) : TE := fun σ H Q => t σ H fun xs H1 => xs.length ≤ sizeLine ∧ ∀ p, H1 p = none → p ≠ sysModules → Q (.ref p) (upd H1 p (.lst xs))
theorem pe_lstN {t : TA} (h : PA X es t) : PE X (.List es pos) (tLstN t) := by
  constructor
  intro pins s σ H Q I hq
  refine wpAny_List_spliced (thn (h.run pos pins s σ H _ I hq) ?_)
  rintro us s1 ⟨xs, H1, I1, r, z, q⟩
  refine ⟨by rw [← r.length]; exact z, ?_⟩
  have free : H1 s1.heap.objs.size = none := I1.hok.fresh (Nat.le_refl _)
  have J := I1.laid (t' := s1.toks) (a := s1.heap.objs.size) (o := .lst xs) (h' := s1.heap.push { cls := .type "list", data := .seq us.toArray })
    (fun b u e => Heap.get?_push_of_some _ e) (Nat.le_refl _) ⟨z, us, 0, r, Heap.get?_push_size _ rfl⟩
  exact ⟨.ref s1.heap.objs.size, _, J, rfl, q _ free (Nat.ne_of_gt I1.big)⟩
theorem pd_lst (h : PA X es (tFrs ds)) (hl : decide (ds.length ≤ 1000) = true := by rfl) : PE X (.List es pos) (tFr (.list ds)) :=
  pe_imp (pe_lstN h) fun _ H _ q => fun vs H1 s1 d1 => ⟨by rw [d1.length]; exact few_ok hl, fun p hp n => q _ _ (s1.trans (same_new hp)) (.lst (sub_new s1 hp) n (d1.same (sub_more (same_new hp))))⟩
theorem pd_dict0 : PE X (.Dict [] [] pos) (tFr (.dict [])) :=
  pe_imp pe_dnewK fun _ H _ q => fun p hp => q _ _ (same_new hp) (.dic (sub_new (Same.refl H) hp) .nil)
theorem pd_dict1 {k : Str} {p1 : Pos} (h : PE X e (tFr d)) : PE X (.Dict [some (.Constant (.str k) j p1)] [e] pos) (tFr (.dict [(.str k, d)])) :=
  pe_imp (pe_disp (pps_cons pe_str h pps_nil) rfl rfl (by simp) (by simp)) fun _ H _ q => fun p hp v H1 s1 d1 => by
    have e1 := s1 _ _ (upd_same (H := H) (a := p) (o := .dK []))
    refine ⟨e1, [(.inr k, v)], rfl, by simp, ?_⟩
    have same : Same H (upd H1 p (.dK (mergeK [] [(.inr k, v)]))) := fun b u e => by
      have nb := ne_of_none e hp
      rw [upd_ne nb]
      exact s1 b u (by rw [upd_ne nb]; exact e)
    refine q _ _ same (.dic (kvs := [(.inr k, v)]) (sub_of hp upd_same) (.cons (d1.same ?_) .nil))
    intro b u e
    obtain ⟨n1, n2⟩ := of_sub e
    have nb : b ≠ p := fun z => by rw [z, upd_same] at n1; cases n1
    exact sub_of (by rw [upd_ne nb] at n1; exact n1) (by rw [upd_ne nb]; exact n2)
end

/-! ### the draws -/
/-- H' has what H has, but for a; a may be written -/
def ExtP (a : Addr) (H H' : Hp) : Prop := ∀ b o, b ≠ a → H b = some o → H' b = some o
theorem ExtP.refl (a : Addr) (H : Hp) : ExtP a H H := fun _ _ _ e => e
theorem ExtP.trans {a : Addr} {H H1 H2 : Hp} (x : ExtP a H H1) (y : ExtP a H1 H2) : ExtP a H H2 := fun b o n e => y b o n (x b o n e)
theorem ExtP.of {a : Addr} {H H' : Hp} (s : Same H H') : ExtP a H H' := fun b o _ e => s b o e
theorem ExtP.upd (a : Addr) (H : Hp) (o : HO) : ExtP a H (upd H a o) := fun b u n e => by rw [upd_ne n]; exact e
/-- the draws' list: what is left of the cell, the mixed number, how often it was asked -/
def PotAt (a : Addr) (N : Nat) (H : Hp) : Prop := ∃ o b c : Int, H a = some (.lst [.int o, .int b, .int c]) ∧ 0 ≤ o ∧ 0 ≤ b ∧ b < 2305843009213693951 ∧ 0 ≤ c ∧ c ≤ N
theorem PotAt.mono {a : Addr} {N M : Nat} {H : Hp} (h : PotAt a N H) (k : N ≤ M) : PotAt a M H := by
  obtain ⟨o, b, c, e, h0, h1, h2, h3, h4⟩ := h
  exact ⟨o, b, c, e, h0, h1, h2, h3, by omega⟩
theorem PotAt.same {a : Addr} {N : Nat} {H H' : Hp} (h : PotAt a N H) (k : Same H H') : PotAt a N H' := by
  obtain ⟨o, b, c, e, r⟩ := h
  exact ⟨o, b, c, k _ _ e, r⟩
/-- ** to a written power, of great numbers -/
def CPowW (i j : Int) : Prop := 0 ≤ j ∧ j ≤ 1000 ∧ i.natAbs < 2 ^ 4096
theorem op_powW {X : Cx} : OpR X (binaryOp .Pow) (rI CPowW fun i j => .int (i ^ j.toNat)) := opI fun i j _ _ _ _ _ hc q => by
  obtain ⟨h1, h2, h3⟩ := hc
  refine pow_int h1 ?_ q
  have e : Builtin.Int.intBits i ≤ 4096 := by
    unfold Builtin.Int.intBits
    split
    · omega
    · have := PySem.Flt.log2_lt_of (show 0 < 4096 by decide) h3
      omega
  have : (Builtin.Int.intBits i : Int) * j ≤ 4096 * 1000 := Int.mul_le_mul (by omega) h2 h1 (by decide)
  omega
theorem pow_lt {i : Int} {n k : Nat} (h : i.natAbs < n) (hn : 0 < k) : (i ^ k).natAbs < n ^ k := by
  rw [Int.natAbs_pow]
  exact Nat.pow_lt_pow_left h (by omega)
theorem sub_ext {a : Addr} {H H1 H2 : Hp} (ha : H a ≠ none) (x : ExtP a H1 H2) : Same (sub H H1) (sub H H2) := fun b o e => by
  obtain ⟨e0, e1⟩ := of_sub e
  exact sub_of e0 (x b o (fun z => ha (z ▸ e0)) e1)
theorem sub_lessP {a : Addr} {H H1 H2 : Hp} (h1 : H1 a ≠ none) (x : ExtP a H H1) : Same (sub H1 H2) (sub H H2) := fun b o e => by
  obtain ⟨e0, e1⟩ := of_sub e
  refine sub_of ?_ e1
  cases q : H b with
  | none => rfl
  | some u =>
    have nb : b ≠ a := fun z => h1 (z ▸ e0)
    rw [x b u nb q] at e0
    cases e0
theorem PotAt.ne {a : Addr} {N : Nat} {H : Hp} (h : PotAt a N H) : H a ≠ none := by
  obtain ⟨_, _, _, e, _⟩ := h
  rw [e]
  exact fun z => by cases z
end Lk
set_option Elab.async false
set_option linter.all false
set_option maxRecDepth 100000
set_option maxHeartbeats 4000000
set_option pp.maxSteps 1200
set_option pp.deepTerms false
namespace K6
open PySem PySem.Spec PyProof.Rows L2 Lk
section
variable {P : Program} {w : World} {K : PySem.W.Frag} {mg : Str → Option Value} {base : Heap} {f : Addr} {fd : FuncData}
def top (i : Nat) : Stmt := PySem.Challenge.pw_lotkeepers_k02_whole_families_of_lots.main.body.getD i (.Pass ⟨0, 0, 0, 0⟩)
abbrev sPot : Stmt := top 40
abbrev sTake : Stmt := top 41
abbrev sOf : Stmt := top 42
abbrev sCells : Stmt := top 44
abbrev sSome : Stmt := top 43
/-- built-in names that the text leaves alone -/
structure Bl (mg : Str → Option Value) : Prop where
  int : mg "int" = none
  abs : mg "abs" = none
  len : mg "len" = none
  list : mg "list" = none
  range : mg "range" = none
  max : mg "max" = none
  min : mg "min" = none
  all : mg "all" = none
  any : mg "any" = none
  repr : mg "repr" = none
  isin : mg "isinstance" = none
  enum : mg "enumerate" = none
  vErr : mg "ValueError" = none
def spTake : Sp := fun vs H Q _ => ∃ (a : Addr) (n : Int) (N : Nat), vs = [.ref a, .int n] ∧ PotAt a N H ∧ N ≤ 1000000 ∧ 0 < n ∧ n ≤ 1000 ∧
  ∀ (i : Int) (H' : Hp), 0 ≤ i → i < n → ExtP a H H' → PotAt a (N + 1) H' → Q (.int i) H'
theorem scTake : FnScope ["pot", "upto", "digit", "prime", "mixed"] ["pot", "upto"] (defScope sTake) := ⟨rfl, rfl, rfl, by decide +kernel, rfl, by decide +kernel, by decide +kernel⟩
theorem ok_take (F : Fun K "_law_take" "_law_take" sTake f fd) (T : Bl mg) : FnOk P w K mg base CX0 1 f fd ["pot", "upto"] spTake := by
  refine F.ok scTake (fun vs H Q E h => ?_) (fun cdv A outer s H vs Q E hr h => ?_)
  · obtain ⟨a, n, N, rfl, _⟩ := h
    rfl
  · obtain ⟨a, n, N, rfl, ⟨o, b, c, hp, ho, hb, hb2, hc, hcN⟩, hN, hn, hn2, k⟩ := h
    have nd := scTake.nd
    refine ⟨_, pss_cons (ps_if (pt_cmpR op_gt (pe_ix ix_list (pv 0) pe_int (fun _ _ => rfl)) pe_int (nomark _))
        (pss_cons (ps_set (i := 2) nd rfl (.inl rfl) (pe_op op_mod (pe_callTy call_int1 rfl T.int boot_int (pa_cons (pe_ix ix_list (pv 0) pe_int (fun _ _ => rfl)) pa_nil)) (pv 1)))
          (pss_cons (ps_asg (pe_op op_fdiv (pe_ix ix_list (pv 0) pe_int (fun _ _ => rfl)) (pv 1)) (pg_sub (pv 0) pe_int set_list))
            (pss_one (ps_ret (pv 2))))) pss_nil)
      (pss_cons (ps_asg (pe_op op_add (pe_ix ix_list (pv 0) pe_int (fun _ _ => rfl)) pe_int) (pg_sub (pv 0) pe_int set_list))
        (pss_cons (ps_set (i := 3) nd rfl (.inl rfl) (pe_ix ix_list (pe_lst (pa_cons pe_int (pa_cons pe_int (pa_cons pe_int (pa_cons pe_int (pa_cons pe_int pa_nil))))))
            (pe_op op_mod (pe_callTy call_int1 rfl T.int boot_int (pa_cons (pe_ix ix_list (pv 0) pe_int (fun _ _ => rfl)) pa_nil)) pe_int) (fun _ _ => rfl)))
          (pss_cons (ps_set (i := 4) nd rfl (.inl rfl) (pe_op op_mod (pe_callTy call_int1 rfl T.int boot_int (pa_cons (pe_op op_powW (pe_callTy call_int1 rfl T.int boot_int (pa_cons
                (pe_op op_add (pe_op op_add (pe_ix ix_list (pv 0) pe_int (fun _ _ => rfl)) (pe_op op_mul (pe_op op_mul pe_int (pe_ix ix_list (pv 0) pe_int (fun _ _ => rfl))) (pe_ix ix_list (pv 0) pe_int (fun _ _ => rfl)))) pe_int) pa_nil)) pe_int) pa_nil)) (pv 3)))
            (pss_cons (ps_set (i := 4) nd rfl (.inl rfl) (pe_op op_mod (pe_callTy call_int1 rfl T.int boot_int (pa_cons (pe_op op_mul (pv 4)
                (pe_op op_add (pe_op op_mod (pe_callTy call_int1 rfl T.int boot_int (pa_cons (pv 4) pa_nil)) pe_int) (pe_op op_mul pe_int (pe_ix ix_list (pv 0) pe_int (fun _ _ => rfl))))) pa_nil)) pe_int))
              (pss_one (ps_ret (pe_op op_mod (pe_callTy call_int1 rfl T.int boot_int (pa_cons (pe_op op_fdiv (pv 4) pe_int) pa_nil)) (pv 1)))))))), ?_⟩
    -- if pot[0] > 0
    refine ⟨_, rfl, a, _, _, _, rfl, rfl, SqL.of hp, rfl, _, _, rfl, rfl, _, rfl, ?_⟩
    refine ite2 (fun hpos => ?_) (fun _ => ?_)
    · refine ⟨_, rfl, a, _, _, _, rfl, rfl, SqL.of hp, rfl, .inl ⟨_, rfl, _, rfl, _, _, rfl, rfl, hn, ?_⟩⟩
      refine ⟨_, rfl, a, _, _, _, rfl, rfl, SqL.of hp, rfl, _, rfl, _, _, rfl, rfl, ⟨hn, by omega⟩, _, rfl, a, _, _, 0, rfl, rfl, hp, rfl, ?_⟩
      refine ⟨_, rfl, ?_⟩
      exact k _ _ (Int.emod_nonneg _ (by omega)) (Int.emod_lt_of_pos _ hn) (ExtP.upd _ _ _)
        ⟨o / n, b, c, upd_same, Int.ediv_nonneg ho (by omega), hb, hb2, hc, by omega⟩
    · -- pot[2] = pot[2] + 1
      refine ⟨_, rfl, a, _, _, _, rfl, rfl, SqL.of hp, rfl, _, _, rfl, rfl, _, rfl, a, _, _, 2, rfl, rfl, hp, rfl, ?_⟩
      have hq : upd H a (.lst [.int o, .int b, .int (c + 1)]) a = some (.lst [.int o, .int b, .int (c + 1)]) := upd_same
      -- prime = [..][int(pot[2]) % 5]
      refine ⟨by rw [sizeLine_eq]; decide, fun p np => ?_⟩
      have nap : a ≠ p := fun z => by rw [← z, upd_same] at np; cases np
      have hq2 : ∀ o', upd (upd H a (.lst [.int o, .int b, .int (c + 1)])) p o' a = some (.lst [.int o, .int b, .int (c + 1)]) := fun o' => by rw [upd_ne nap]; exact hq
      refine ⟨_, rfl, a, _, _, _, rfl, rfl, SqL.of (hq2 _), rfl, .inl ⟨_, rfl, _, _, rfl, rfl, (show (0 : Int) < 5 by decide), ?_⟩⟩
      have r0 : 0 ≤ (c + 1) % 5 := Int.emod_nonneg _ (by decide)
      have r5 : (c + 1) % 5 < 5 := Int.emod_lt_of_pos _ (by decide)
      obtain ⟨pr, hpr, hp0⟩ : ∃ pr : Int, ([V.int 2147483647, .int 2147483629, .int 2147483587, .int 2147483579, .int 2147483563] : List V)[((c + 1) % 5).toNat]? = some (.int pr) ∧ 0 < pr := by
        have : ((c + 1) % 5).toNat = 0 ∨ ((c + 1) % 5).toNat = 1 ∨ ((c + 1) % 5).toNat = 2 ∨ ((c + 1) % 5).toNat = 3 ∨ ((c + 1) % 5).toNat = 4 := by omega
        rcases this with e | e | e | e | e <;> rw [e] <;> exact ⟨_, rfl, by decide⟩
      have hix : atI ([V.int 2147483647, .int 2147483629, .int 2147483587, .int 2147483579, .int 2147483563] : List V) ((c + 1) % 5) = some (.int pr) := by
        have e : (c + 1) % 5 = ((((c + 1) % 5).toNat : Nat) : Int) := by omega
        rw [e]
        exact atI_nat hpr
      refine ⟨p, _, _, _, rfl, rfl, SqL.of upd_same, hix, ?_⟩
      generalize hH : upd _ p _ = H2
      have hq3 : H2 a = some (.lst [.int o, .int b, .int (c + 1)]) := by rw [← hH]; exact hq2 _
      have hx : ExtP a H H2 := fun z u nz e => by
        have nzp : z ≠ p := fun q => by rw [q] at e nz; rw [upd_ne nz] at np; rw [np] at e; cases e
        rw [← hH, upd_ne nzp, upd_ne nz]
        exact e
      -- mixed = int(int(pot[1] + .. * pot[2] * pot[2] + ..) ** 3) % prime
      have c1 : c + 1 ≤ 1000001 := by omega
      refine ⟨_, rfl, a, _, _, _, rfl, rfl, SqL.of hq3, rfl, _, rfl, a, _, _, _, rfl, rfl, SqL.of hq3, rfl, _, _, rfl, rfl, .inl ⟨by decide, by decide⟩, ?_⟩
      refine ⟨_, rfl, a, _, _, _, rfl, rfl, SqL.of hq3, rfl, _, _, rfl, rfl, .inr ⟨by show -(2 ^ 64) < c + 1; omega, by show c + 1 < 2 ^ 64; omega⟩, _, _, rfl, rfl, _, _, rfl, rfl, .inl ⟨_, rfl, ?_⟩⟩
      have z1 : 0 ≤ 97843 * (c + 1) * (c + 1) := Int.mul_nonneg (by omega) (by omega)
      have z2 : 97843 * (c + 1) * (c + 1) ≤ 97843 * 1000001 * 1000001 := Int.mul_le_mul (by omega) c1 (by omega) (by decide)
      refine ⟨_, _, rfl, rfl, ⟨by decide, by decide, ?_⟩, .inl ⟨_, rfl, _, rfl, _, _, rfl, rfl, hp0, ?_⟩⟩
      · have : (b + 97843 * (c + 1) * (c + 1) + 109).natAbs < 2 ^ 64 := by omega
        exact Nat.lt_of_lt_of_le this (Nat.pow_le_pow_right (by decide) (by decide))
      have m0 := Int.emod_nonneg ((b + 97843 * (c + 1) * (c + 1) + 109) ^ (3 : Int).toNat) (show pr ≠ 0 by omega)
      have m1 := Int.emod_lt_of_pos ((b + 97843 * (c + 1) * (c + 1) + 109) ^ (3 : Int).toNat) hp0
      have hpr2 : pr ≤ 2147483647 := by
        have : ((c + 1) % 5).toNat = 0 ∨ ((c + 1) % 5).toNat = 1 ∨ ((c + 1) % 5).toNat = 2 ∨ ((c + 1) % 5).toNat = 3 ∨ ((c + 1) % 5).toNat = 4 := by omega
        rcases this with e | e | e | e | e <;> rw [e] at hpr <;> cases hpr <;> decide
      obtain ⟨m, hm⟩ : ∃ m, m = (b + 97843 * (c + 1) * (c + 1) + 109) ^ (3 : Int).toNat % pr := ⟨_, rfl⟩
      have m2 : -(2 ^ 64) < (b + 97843 * (c + 1) * (c + 1) + 109) ^ (3 : Int).toNat % pr := by rw [← hm] at m0 ⊢; omega
      have m3 : (b + 97843 * (c + 1) * (c + 1) + 109) ^ (3 : Int).toNat % pr < 2 ^ 64 := by rw [← hm] at m1 ⊢; omega
      -- mixed = int(mixed * (int(mixed) % .. + .. * pot[2])) % ..; return int(mixed // ..) % upto
      refine ⟨_, rfl, _, rfl, .inl ⟨_, rfl, _, _, rfl, rfl, (show (0 : Int) < 10487 by decide), ?_⟩⟩
      refine ⟨_, rfl, a, _, _, _, rfl, rfl, SqL.of hq3, rfl, _, _, rfl, rfl, .inl ⟨by decide, by decide⟩, _, _, rfl, rfl, _, _, rfl, rfl, .inl ⟨m2, m3⟩, .inl ⟨_, rfl, _, _, rfl, rfl, (show (0 : Int) < 2305843009213693907 by decide), ?_⟩⟩
      refine ⟨_, rfl, _, _, rfl, rfl, ⟨by decide, by decide⟩, .inl ⟨_, rfl, _, rfl, _, _, rfl, rfl, hn, ?_⟩⟩
      exact k _ _ (Int.emod_nonneg _ (by omega)) (Int.emod_lt_of_pos _ hn) hx ⟨o, b, c + 1, hq3, ho, hb, hb2, by omega, by omega⟩
def spOf : Sp := fun vs H Q _ => ∃ (a l : Addr) (N : Nat) (xs : List V), vs = [.ref a, .ref l] ∧ PotAt a N H ∧ N ≤ 1000000 ∧ l ≠ a ∧ H l = some (.lst xs) ∧ 0 < xs.length ∧ xs.length ≤ 1000 ∧
  ∀ (i : Nat) (x : V) (H' : Hp), xs[i]? = some x → ExtP a H H' → PotAt a (N + 1) H' → Q x H'
theorem scOf : FnScope ["pot", "some"] ["pot", "some"] (defScope sOf) := ⟨rfl, rfl, rfl, by decide +kernel, rfl, by decide +kernel, by decide +kernel⟩
theorem ok_of {f1 : Addr} {fd1 : FuncData} (F : Fun K "_law_of" "_law_of" sOf f fd) (T : Bl mg) (F1 : Fun K "_law_take" "_law_take" sTake f1 fd1) (b1 : Binds K fd1 ["pot", "upto"] []) (m1 : mg "_law_take" = some (.ref f1)) :
    FnOk P w K mg base CX0 2 f fd ["pot", "some"] spOf := by
  have G1 : FnOk P w K mg base CX0 1 f1 fd1 ["pot", "upto"] spTake := ok_take F1 T
  refine F.ok scOf (fun vs H Q E h => ?_) (fun cdv A outer s H vs Q E hr h => ?_)
  · obtain ⟨a, l, N, xs, rfl, _⟩ := h
    rfl
  · obtain ⟨a, l, N, xs, rfl, hp, hN, nla, hl, h0, h1, k⟩ := h
    refine ⟨_, pss_one (ps_ret (pe_ix ix_list (pv 1) (pe_call G1 hr rfl m1 F1.kp b1 .nil pass0 (pa_cons (pv 0) (pa_cons (pe_callB call_len_seq (by rfl) T.len PySem.boot_len (pa_cons (pv 1) pa_nil)) pa_nil))) (fun _ _ => rfl))), ?_⟩
    refine ⟨_, rfl, _, rfl, _, rfl, l, _, rfl, .inl (SqL.of hl), a, _, N, rfl, hp, hN, by omega, by omega, fun i H' i0 i1 ex hp' => ?_⟩
    have hl' : H' l = some (.lst xs) := ex l _ nla hl
    obtain ⟨x, hx⟩ : ∃ x, xs[i.toNat]? = some x := ⟨_, List.getElem?_eq_getElem (by omega)⟩
    refine ⟨l, xs, i, x, rfl, rfl, SqL.of hl', ?_, k i.toNat x H' hx ex hp'⟩
    have e : i = ((i.toNat : Nat) : Int) := by omega
    rw [e]
    exact atI_nat hx
def spCells (K : PySem.W.Frag) : Sp := fun vs H Q _ => ∃ (a : Addr) (ns : List Int) (m : Int), vs = [.ref a, .int m] ∧ SqL K H a (ns.map V.int) ∧ ns.length ≤ 63 ∧ 0 ≤ m ∧ m ≤ 60 ∧
  ∀ (l : Addr) (n : Nat), n ≤ 63 → H l = none → Q (.ref l) (upd H l (.lst (rgV 0 (n : Int))))
theorem scCells : FnScope ["script", "limit"] ["script", "limit"] (defScope sCells) := ⟨rfl, rfl, rfl, by decide +kernel, rfl, by decide +kernel, by decide +kernel⟩
theorem ok_cells (F : Fun K "_law_cells" "_law_cells" sCells f fd) (T : Bl mg) : FnOk P w K mg base CX0 1 f fd ["script", "limit"] (spCells K) := by
  refine F.ok scCells (fun vs H Q E h => ?_) (fun cdv A outer s H vs Q E hr h => ?_)
  · obtain ⟨a, ns, m, rfl, _⟩ := h
    rfl
  · obtain ⟨a, ns, m, rfl, hs, hl, m0, m1, k⟩ := h
    refine ⟨_, pss_one (ps_ret (pe_listRg rfl (by rfl) T.list (prg_1 (by rfl) T.range (pe_callB (call_max2 rfl) (by rfl) T.max boot_max (pa_cons pe_int (pa_cons
      (pe_callB (call_min2 rfl) (by rfl) T.min boot_min (pa_cons (pv 1) (pa_cons (pe_callB call_len_seq (by rfl) T.len PySem.boot_len (pa_cons (pv 0) pa_nil)) pa_nil))) pa_nil)))))), ?_⟩
    refine ⟨_, rfl, _, rfl, a, _, rfl, .inl hs, _, _, rfl, _, _, rfl, _, rfl, ?_, ?_⟩
    · rw [List.length_map]
      exact RgOk.of_le (by decide) (by split <;> split <;> omega) (by decide) (by split <;> split <;> omega)
    · intro l hn
      have := k l (if (if ((ns.map V.int).length : Int) < m then ((ns.map V.int).length : Int) else m) > 1 then (if ((ns.map V.int).length : Int) < m then ((ns.map V.int).length : Int) else m) else 1).toNat
        (by rw [List.length_map]; split <;> split <;> omega) hn
      rw [Int.toNat_of_nonneg (by rw [List.length_map]; split <;> split <;> omega)] at this
      exact this
def spPot (K : PySem.W.Frag) : Sp := fun vs H Q _ => ∃ (a : Addr) (ns : List Int) (i : Int), vs = [.ref a, .int i] ∧ SqL K H a (ns.map V.int) ∧ ns.length ≤ 63 ∧ 0 ≤ i ∧ i ≤ 100 ∧
  ∀ (p : Addr) (H' : Hp), H p = none → Same H H' → PotAt p 0 H' → Q (.ref p) H'
theorem scPot : FnScope ["script", "place", "cell", "own", "small"] ["script", "place"] (defScope sPot) := ⟨rfl, rfl, rfl, by decide +kernel, rfl, by decide +kernel, by decide +kernel⟩
theorem ten_pow : (0 : Int) < ((10 : Int) ^ (60 : Int).toNat) ^ (5 : Int).toNat := by decide +kernel
theorem ten_bits : ((10 : Int) ^ (60 : Int).toNat).natAbs < 2 ^ 4096 := by
  refine Nat.lt_of_lt_of_le (show ((10 : Int) ^ (60 : Int).toNat).natAbs < 2 ^ 256 by decide +kernel) (Nat.pow_le_pow_right (by decide) (by decide))
/-- the cell: some int -/
def tCell (K : PySem.W.Frag) : TE := fun σ H Q => ∃ (a : Addr) (ns : List Int) (i : Int), σ[0]? = some (some (.ref a)) ∧ σ[1]? = some (some (.int i)) ∧ SqL K H a (ns.map V.int) ∧ 0 ≤ i ∧ i ≤ 100 ∧ ∀ n : Int, Q (.int n) H
theorem ok_pot (F : Fun K "_law_pot" "_law_pot" sPot f fd) (T : Bl mg) : FnOk P w K mg base CX0 1 f fd ["script", "place"] (spPot K) := by
  refine F.ok scPot (fun vs H Q E h => ?_) (fun cdv A outer s H vs Q E hr h => ?_)
  · obtain ⟨a, ns, i, rfl, _⟩ := h
    rfl
  · obtain ⟨a, ns, i, rfl, hs, hl, i0, i1, k⟩ := h
    have nd := scPot.nd
    refine ⟨_, pss_cons (ps_set (i := 2) nd rfl (.inl rfl) (pe_imp (t' := tCell K) (pe_ifExp (pt_cmpR op_lt (pv 1) (pe_callB call_len_seq (by rfl) T.len PySem.boot_len (pa_cons (pv 0) pa_nil)) (nomark _))
          (pe_ix ix_list (pv 0) (pv 1) (fun _ _ => rfl)) (pe_op op_add (pe_op op_mul pe_int (pv 1)) pe_int)) ?_))
      (pss_cons (ps_set (i := 3) nd rfl (.inl rfl) (pe_op op_mul (pe_op op_mod (pe_callTy call_int1 rfl T.int boot_int (pa_cons (pe_callB call_abs (by rfl) T.abs boot_abs (pa_cons (pv 2) pa_nil)) pa_nil)) (pe_op op_powW (pe_op op_pow pe_int pe_int) pe_int))
          (pe_callTy call_int1 rfl T.int boot_int (pa_cons (pe_cmpR op_ge (pe_callB call_abs (by rfl) T.abs boot_abs (pa_cons (pv 2) pa_nil)) (pe_op op_pow pe_int pe_int) (nomark _)) pa_nil))))
        (pss_cons (ps_set (i := 4) nd rfl (.inl rfl) (pe_op op_mod (pe_callTy call_int1 rfl T.int boot_int (pa_cons (pv 2) pa_nil)) pe_int))
          (pss_one (ps_ret (pe_lst (pa_cons (pv 3) (pa_cons (pe_op op_mod (pe_callTy call_int1 rfl T.int boot_int (pa_cons
            (pe_op op_add (pe_op op_add (pe_op op_mul (pv 4) pe_int) (pe_op op_mul (pe_op op_mul pe_int (pv 1)) (pv 1))) pe_int) pa_nil)) pe_int) (pa_cons pe_int pa_nil)))))))), ?_⟩
    · rintro σ H' Q' ⟨a, ns, i, e0, e1, hs, i0, i1, q⟩
      refine ⟨_, e1, _, e0, a, _, rfl, .inl hs, _, _, rfl, rfl, _, rfl, ?_⟩
      refine ite2 (fun hlt => ?_) (fun _ => ?_)
      · have hlt' : i.toNat < ns.length := by have := of_decide_eq_true hlt; rw [List.length_map] at this; omega
        obtain ⟨x, hx0⟩ : ∃ x, ns[i.toNat]? = some x := ⟨_, List.getElem?_eq_getElem hlt'⟩
        have hx : atI (ns.map V.int) i = some (.int x) := by
          have e : i = ((i.toNat : Nat) : Int) := by omega
          rw [e]
          exact atI_nat (by rw [List.getElem?_map, hx0]; rfl)
        exact ⟨_, e0, _, e1, a, _, _, _, rfl, rfl, hs, hx, q _⟩
      · exact ⟨_, e1, _, _, rfl, rfl, .inl ⟨by decide, by decide⟩, _, _, rfl, rfl, q _⟩
    · refine ⟨a, ns, i, rfl, rfl, hs, i0, i1, fun n => ?_⟩
      have b2 : ∀ c : Bool, -(2 ^ 64) < (if c = true then (1 : Int) else 0) ∧ (if c = true then (1 : Int) else 0) < 2 ^ 64 := by decide
      have b0 : ∀ c : Bool, 0 ≤ (if c = true then (1 : Int) else 0) := by decide
      refine ⟨_, rfl, _, rfl, .inl ⟨_, rfl, _, _, rfl, rfl, ⟨by decide, by decide, by decide⟩, _, _, rfl, rfl, ⟨by decide, by decide, ten_bits⟩, _, _, rfl, rfl, ten_pow, ?_⟩⟩
      refine ⟨_, rfl, _, rfl, _, _, rfl, rfl, ⟨by decide, by decide, by decide⟩, _, _, rfl, rfl, .inr ⟨_, rfl, _, _, rfl, rfl, .inr (b2 _), ?_⟩⟩
      refine ⟨_, rfl, .inl ⟨_, rfl, _, _, rfl, rfl, (show (0 : Int) < 2305843009213693951 by decide), ?_⟩⟩
      refine ⟨_, rfl, _, rfl, _, _, rfl, rfl, .inr ⟨by decide, by decide⟩, _, rfl, _, _, rfl, rfl, .inl ⟨by decide, by decide⟩, _, rfl, _, _, rfl, rfl,
        .inl ⟨by show -(2 ^ 64) < 8034 * i; omega, by show 8034 * i < 2 ^ 64; omega⟩, _, _, rfl, rfl, _, _, rfl, rfl, .inl ⟨_, rfl, _, _, rfl, rfl, (show (0 : Int) < 2305843009213693921 by decide), ?_⟩⟩
      refine ⟨(show 3 ≤ sizeLine by rw [sizeLine_eq]; decide), fun p np => k p _ np (same_new np) ⟨_, _, _, upd_same, ?_, Int.emod_nonneg _ (by decide), ?_, by decide, by decide⟩⟩
      · exact Int.mul_nonneg (Int.emod_nonneg _ (Int.ne_of_gt ten_pow)) (b0 _)
      · exact Int.lt_trans (Int.emod_lt_of_pos _ (show (0 : Int) < 2305843009213693921 by decide)) (by decide)
end
end K6
set_option Elab.async false
set_option linter.all false
set_option maxRecDepth 100000
set_option maxHeartbeats 0
namespace K6
open PySem PySem.Spec PyProof.Rows L2 Lk
/-! ### the head: what is looked at behind the top -/
def nxtO (o : Obj) : List Addr := match o.data with
  | .cls cd => [cd.ns]
  | .func fd => He.refV fd.code
  | _ => []
def nxtD (o : Obj) : List Addr := match o.data with
  | .dict es _ => es.toList.flatMap fun e => He.refV e.val
  | _ => []
def step1 (n : Obj → List Addr) (g : Addr → Option Obj) (as : List Addr) : List Addr := as.flatMap fun a => match g a with
  | some o => n o
  | none => []
def as1 (g : Addr → Option Obj) : List Addr := step1 nxtD g [mainGlobals]
def as2 (g : Addr → Option Obj) : List Addr := step1 nxtO g (as1 g)
def as3 (g : Addr → Option Obj) : List Addr := step1 nxtD g (as2 g)
def as4 (g : Addr → Option Obj) : List Addr := step1 nxtO g (as3 g)
def asK (g : Addr → Option Obj) : List Addr := mainGlobals :: (as1 g ++ (as2 g ++ (as3 g ++ as4 g)))
theorem ba3 {a b c : Bool} (h : (a && (b && c)) = true) : a = true ∧ b = true ∧ c = true := by
  obtain ⟨h1, h2⟩ := He.ba h
  exact ⟨h1, He.ba h2⟩
def gC (K : PySem.W.Frag) : Addr := He.ga K "Circle"
def gS (K : PySem.W.Frag) : Addr := He.ga K "Shelf"
def exB (K : PySem.W.Frag) : Bool := true
def dx0 : He.DefD := ⟨("law", none), "law", "law", defArgs (top 58), defBody (top 58), defScope (top 58), [], []⟩
def dx1 : He.DefD := ⟨("_law_right", none), "_law_right", "_law_right", defArgs (top 57), defBody (top 57), defScope (top 57), [], []⟩
def dx2 : He.DefD := ⟨("Circle", some "__init__"), "__init__", "Circle.__init__", defArgs (inClass (top 17) 0), defBody (inClass (top 17) 0), defScope (inClass (top 17) 0), [], []⟩
def dx3 : He.DefD := ⟨("_law_names", none), "_law_names", "_law_names", defArgs (top 45), defBody (top 45), defScope (top 45), [], []⟩
def dx4 : He.DefD := ⟨("_law_take", none), "_law_take", "_law_take", defArgs (top 41), defBody (top 41), defScope (top 41), [], []⟩
def dx5 : He.DefD := ⟨("_law_some", none), "_law_some", "_law_some", defArgs (top 43), defBody (top 43), defScope (top 43), [], []⟩
def dx6 : He.DefD := ⟨("is_name", none), "is_name", "is_name", defArgs (top 14), defBody (top 14), defScope (top 14), [], []⟩
def dx7 : He.DefD := ⟨("are_names", none), "are_names", "are_names", defArgs (top 15), defBody (top 15), defScope (top 15), [], []⟩
def dx8 : He.DefD := ⟨("_law_family", none), "_law_family", "_law_family", defArgs (top 52), defBody (top 52), defScope (top 52), [], []⟩
def dx9 : He.DefD := ⟨("_law_of", none), "_law_of", "_law_of", defArgs (top 42), defBody (top 42), defScope (top 42), [], []⟩
def dx10 : He.DefD := ⟨("_law_lot_of", none), "_law_lot_of", "_law_lot_of", defArgs (top 46), defBody (top 46), defScope (top 46), [], []⟩
def dx11 : He.DefD := ⟨("_law_least_lots", none), "_law_least_lots", "_law_least_lots", defArgs (top 49), defBody (top 49), defScope (top 49), [], []⟩
def dx12 : He.DefD := ⟨("_law_all_lots", none), "_law_all_lots", "_law_all_lots", defArgs (top 48), defBody (top 48), defScope (top 48), [], []⟩
def dx13 : He.DefD := ⟨("_law_is_inside", none), "_law_is_inside", "_law_is_inside", defArgs (top 47), defBody (top 47), defScope (top 47), [], []⟩
def dx14 : He.DefD := ⟨("least", none), "least", "least", defArgs (top 24), defBody (top 24), defScope (top 24), [], []⟩
def dx15 : He.DefD := ⟨("are_lots", none), "are_lots", "are_lots", defArgs (top 21), defBody (top 21), defScope (top 21), [], []⟩
def dx16 : He.DefD := ⟨("is_lot", none), "is_lot", "is_lot", defArgs (top 19), defBody (top 19), defScope (top 19), [], []⟩
def dx17 : He.DefD := ⟨("least_of", none), "least_of", "least_of", defArgs (top 32), defBody (top 32), defScope (top 32), [], []⟩
def dx18 : He.DefD := ⟨("lots", none), "lots", "lots", defArgs (top 18), defBody (top 18), defScope (top 18), [], []⟩
def dx19 : He.DefD := ⟨("Circle", some "__len__"), "__len__", "Circle.__len__", defArgs (inClass (top 17) 1), defBody (inClass (top 17) 1), defScope (inClass (top 17) 1), [], []⟩
def dx20 : He.DefD := ⟨("has_one", none), "has_one", "has_one", defArgs (top 37), defBody (top 37), defScope (top 37), [], []⟩
def dx21 : He.DefD := ⟨("first_within", none), "first_within", "first_within", defArgs (top 36), defBody (top 36), defScope (top 36), [], []⟩
def dx22 : He.DefD := ⟨("is_within", none), "is_within", "is_within", defArgs (top 22), defBody (top 22), defScope (top 22), [], []⟩
def dx23 : He.DefD := ⟨("_law_members", none), "_law_members", "_law_members", defArgs (top 53), defBody (top 53), defScope (top 53), [], []⟩
def dx24 : He.DefD := ⟨("_law_has_one", none), "_law_has_one", "_law_has_one", defArgs (top 51), defBody (top 51), defScope (top 51), [], []⟩
def dx25 : He.DefD := ⟨("joined", none), "joined", "joined", defArgs (top 29), defBody (top 29), defScope (top 29), [], []⟩
def dx26 : He.DefD := ⟨("refuse_family", none), "refuse_family", "refuse_family", defArgs (top 35), defBody (top 35), defScope (top 35), [], []⟩
def dx27 : He.DefD := ⟨("is_family", none), "is_family", "is_family", defArgs (top 34), defBody (top 34), defScope (top 34), [], []⟩
def dx28 : He.DefD := ⟨("shared", none), "shared", "shared", defArgs (top 30), defBody (top 30), defScope (top 30), [], []⟩
def dx29 : He.DefD := ⟨("least_with_both", none), "least_with_both", "least_with_both", defArgs (top 33), defBody (top 33), defScope (top 33), [], []⟩
def dx30 : He.DefD := ⟨("Circle", some "lot"), "lot", "Circle.lot", defArgs (inClass (top 17) 4), defBody (inClass (top 17) 4), defScope (inClass (top 17) 4), [], []⟩
def dx31 : He.DefD := ⟨("many", none), "many", "many", defArgs (top 31), defBody (top 31), defScope (top 31), [], []⟩
def dx32 : He.DefD := ⟨("_law_is_within_right", none), "_law_is_within_right", "_law_is_within_right", defArgs (top 56), defBody (top 56), defScope (top 56), [], []⟩
def dx33 : He.DefD := ⟨("within", none), "within", "within", defArgs (top 27), defBody (top 27), defScope (top 27), [], []⟩
def dx34 : He.DefD := ⟨("shows_within", none), "shows_within", "shows_within", defArgs (top 28), defBody (top 28), defScope (top 28), [], []⟩
def dx35 : He.DefD := ⟨("is_told", none), "is_told", "is_told", defArgs (top 13), defBody (top 13), defScope (top 13), [], []⟩
def dx36 : He.DefD := ⟨("is_row", none), "is_row", "is_row", defArgs (top 12), defBody (top 12), defScope (top 12), [], []⟩
def dx37 : He.DefD := ⟨("is_number_within", none), "is_number_within", "is_number_within", defArgs (top 38), defBody (top 38), defScope (top 38), [], []⟩
def dx38 : He.DefD := ⟨("is_number_of", none), "is_number_of", "is_number_of", defArgs (top 11), defBody (top 11), defScope (top 11), [], []⟩
def dx39 : He.DefD := ⟨("is_from_to", none), "is_from_to", "is_from_to", defArgs (top 10), defBody (top 10), defScope (top 10), [], []⟩
def dx40 : He.DefD := ⟨("is_integer", none), "is_integer", "is_integer", defArgs (top 9), defBody (top 9), defScope (top 9), [], []⟩
def dx41 : He.DefD := ⟨("_law_is_number", none), "_law_is_number", "_law_is_number", defArgs (top 54), defBody (top 54), defScope (top 54), [], []⟩
def dx42 : He.DefD := ⟨("_law_is_lot", none), "_law_is_lot", "_law_is_lot", defArgs (top 50), defBody (top 50), defScope (top 50), [], []⟩
def dx43 : He.DefD := ⟨("_law_is_has_right", none), "_law_is_has_right", "_law_is_has_right", defArgs (top 55), defBody (top 55), defScope (top 55), [], []⟩
def dx44 : He.DefD := ⟨("has", none), "has", "has", defArgs (top 25), defBody (top 25), defScope (top 25), [], []⟩
def dx45 : He.DefD := ⟨("refuse_lot", none), "refuse_lot", "refuse_lot", defArgs (top 20), defBody (top 20), defScope (top 20), [], []⟩
def dx46 : He.DefD := ⟨("shows_has", none), "shows_has", "shows_has", defArgs (top 26), defBody (top 26), defScope (top 26), [], []⟩
def dx47 : He.DefD := ⟨("_law_cells", none), "_law_cells", "_law_cells", defArgs (top 44), defBody (top 44), defScope (top 44), [], []⟩
def dx48 : He.DefD := ⟨("_law_pot", none), "_law_pot", "_law_pot", defArgs (top 40), defBody (top 40), defScope (top 40), [], []⟩
def fn : List He.DefD := [dx0, dx1, dx2, dx3, dx4, dx5, dx6, dx7, dx8, dx9, dx10, dx11, dx12, dx13, dx14, dx15, dx16, dx17, dx18, dx19, dx20, dx21, dx22, dx23, dx24, dx25, dx26, dx27, dx28, dx29, dx30, dx31, dx32, dx33, dx34, dx35, dx36, dx37, dx38, dx39, dx40, dx41, dx42, dx43, dx44, dx45, dx46, dx47, dx48]
def fa : List He.Fa := [.glo "law", .glo "_law_right", .glo "_law_names", .glo "_law_take", .glo "_law_some", .glo "is_name", .glo "are_names", .glo "_law_family", .glo "_law_of", .glo "_law_lot_of", .glo "_law_least_lots", .glo "_law_all_lots", .glo "_law_is_inside", .glo "least", .glo "are_lots", .glo "is_lot", .glo "least_of", .glo "lots", .glo "has_one", .glo "first_within", .glo "is_within", .glo "_law_members", .glo "_law_has_one", .glo "joined", .glo "refuse_family", .glo "is_family", .glo "shared", .glo "least_with_both", .glo "many", .glo "_law_is_within_right", .glo "within", .glo "shows_within", .glo "is_told", .glo "is_row", .glo "is_number_within", .glo "is_number_of", .glo "is_from_to", .glo "is_integer", .glo "_law_is_number", .glo "_law_is_lot", .glo "_law_is_has_right", .glo "has", .glo "refuse_lot", .glo "shows_has", .glo "_law_cells", .glo "_law_pot", .glo "Circle", .free "int", .free "abs", .free "len", .free "list", .free "range", .free "max", .free "min", .free "all", .free "any", .free "repr", .free "isinstance", .free "enumerate", .free "ValueError", .free "str", .free "tuple", .free "set", .free "sum", .free "sorted", .free "zip", .free "dict", .free "bool", .str "LETTERS" "abcdefghijklmnopqrstuvwxyz", .cls "Circle", .noat "Circle" "names", .mkr "Circle", .meth "Circle" "__len__", .meth "Circle" "lot"]
def obF (K : PySem.W.Frag) : He.AlD × Bool := (He.obsD fa fn K, exB K)
def obK (g : Addr → Option Obj) : He.AlD × Bool := obF (He.frG g (asK g))
def hk : PySem.W.Hook where
  α := He.AlD × Bool
  obs := fun s => obK s.heap.get?
  val := fun _ => (He.valD fn, true)
  says := fun _ h => ∃ K : PySem.W.Frag, K.In h ∧ obF K = (He.valD fn, true)
  of := fun _ _ e => ⟨_, He.frG_in, e⟩
  keeps := fun _ _ _ ⟨K, hK, c⟩ k => ⟨K, PySem.W.Frag.In.keeps hK k, c⟩
abbrev R0 : PySem.W.OpenRow := PySem.W.OpenLaw.row PySem.Challenge.rw_lotkeepers_k02_whole_families_of_lots
def ob (s : PySem.W.SharedT) : He.AlD × Bool := obK (HandSHeadRun.getT s)
theorem ob_eq (s : PySem.W.SharedT) : ob s = hk.obs s.abs := by
  have e : HandSHeadRun.getT s = s.abs.heap.get? := funext (HandSHeadRun.getT_eq s)
  show obK (HandSHeadRun.getT s) = obK s.abs.heap.get?
  rw [e]
def others0 : List Str := ["_wall", "LotError", "BadNames", "BadLot", "BadLots", "BadFamily", "LETTERS", "is_integer", "is_from_to", "is_number_of", "is_row", "is_told", "is_name", "are_names", "Circle", "lots", "is_lot", "refuse_lot", "are_lots", "is_within", "least", "has", "shows_has", "within", "shows_within", "joined", "shared", "many", "least_of", "least_with_both"]
def others1 : List Str := ["is_family", "refuse_family", "first_within", "has_one", "is_number_within", "_law_pot", "_law_take", "_law_of", "_law_some", "_law_cells", "_law_names", "_law_lot_of", "_law_is_inside", "_law_all_lots", "_law_least_lots", "_law_is_lot", "_law_has_one", "_law_family", "_law_members", "_law_is_number", "_law_is_has_right", "_law_is_within_right", "_law_right"]
def others : List Str := others0 ++ others1
end K6
set_option Elab.async false
set_option linter.all false
set_option maxRecDepth 100000
set_option maxHeartbeats 0
namespace K6
open PySem PySem.Spec PyProof.Rows L2 Lk
theorem run (w : World) : HandSHeadRun.RunEq R0 (PySem.W.view R0.prog [58]) hk ob 13200 others w := by
  intro os
  kernel_rfl
end K6
set_option Elab.async false
set_option linter.all false
set_option maxRecDepth 100000
set_option maxHeartbeats 4000000
set_option pp.maxSteps 1200
set_option pp.deepTerms false
namespace K6
open PySem PySem.Spec PyProof.Rows L2 Lk
section
variable {P : Program} {w : World} {K : PySem.W.Frag} {mg : Str → Option Value} {base : Heap} {f : Addr} {fd : FuncData}
/-- ys are some of xs, each at its own place, in any sequence -/
def Sel {α : Type} (ys xs : List α) : Prop := ∃ zs, (ys ++ zs).Perm xs
theorem perm_erase {α : Type} : ∀ {xs : List α} {k : Nat} {y : α}, xs[k]? = some y → (y :: xs.eraseIdx k).Perm xs
  | [], _, _, h => by simp at h
  | x :: xs, 0, y, h => by simp at h; subst h; exact List.Perm.refl _
  | x :: xs, k + 1, y, h => by
    have := perm_erase (xs := xs) (k := k) (y := y) (by simpa using h)
    exact (List.Perm.swap x y _).trans (this.cons x)
def spSome (K : PySem.W.Frag) : Sp := fun vs H Q _ => ∃ (a l : Addr) (m : Int) (N : Nat) (xs : List V), vs = [.ref a, .ref l, .int m] ∧ PotAt a N H ∧ N + m.toNat ≤ 1000000 ∧ (SqL K H l xs ∨ SqT K H l xs) ∧ 0 ≤ m ∧ m ≤ xs.length ∧ xs.length ≤ 1000 ∧
  ∀ (ys : List V) (p : Addr) (H' : Hp), Sel ys xs → ys.length = m.toNat → ExtP a H H' → PotAt a (N + m.toNat) H' → H p = none → p ≠ sysModules → H' p = some (.lst ys) → Q (.ref p) H'
theorem scSome : FnScope ["pot", "pool", "amount", "rest_here", "found", "lap"] ["pot", "pool", "amount"] (defScope sSome) := ⟨rfl, rfl, rfl, by decide +kernel, rfl, by decide +kernel, by decide +kernel⟩
theorem ok_some {f1 : Addr} {fd1 : FuncData} (F : Fun K "_law_some" "_law_some" sSome f fd) (T : Bl mg) (F1 : Fun K "_law_take" "_law_take" sTake f1 fd1) (b1 : Binds K fd1 ["pot", "upto"] []) (m1 : mg "_law_take" = some (.ref f1)) :
    FnOk P w K mg base CX0 2 f fd ["pot", "pool", "amount"] (spSome K) := by
  have G1 : FnOk P w K mg base CX0 1 f1 fd1 ["pot", "upto"] spTake := ok_take F1 T
  refine F.ok scSome (fun vs H Q E h => ?_) (fun cdv A outer s H vs Q E hr h => ?_)
  · obtain ⟨a, l, m, N, xs, rfl, _⟩ := h
    rfl
  · obtain ⟨a, l, m, N, xs, rfl, hp, hN, hl, h0, h1, h2, k⟩ := h
    have nd := scSome.nd
    refine ⟨_, pss_cons (ps_par (i := 3) (j := 4) rfl nd rfl rfl (by decide) rfl rfl (by exact (pa_cons (pe_callTy call_list_of rfl T.list boot_list (pa_cons (pv 1) pa_nil)) (pa_cons (pe_lstN pa_nil) pa_nil))) rfl)
      (pss_cons (ps_for PassesOwn.never rfl (pi_range1 rfl T.range (pa_cons (pv 2) pa_nil)) (pg_name (i := 5) nd rfl (.inl rfl))
          (pss_one (ps_expr (pe_bm PySem.F.plainAttrs_list PySem.F.slot_list_append PySem.F.type_list_append mt_append (pv 4) (pa_cons (pe_bm PySem.F.plainAttrs_list PySem.F.slot_list_pop PySem.F.type_list_pop mt_popAt (pv 3)
            (pa_cons (pe_call G1 hr rfl m1 F1.kp b1 .nil pass0 (pa_cons (pv 0) (pa_cons (pe_callB call_len_seq (by rfl) T.len PySem.boot_len (pa_cons (pv 3) pa_nil)) pa_nil))) pa_nil)) pa_nil)))))
        (pss_one (ps_ret (pv 4)))), ?_⟩
    refine ⟨_, rfl, l, xs, rfl, hl, fun r nr => ?_⟩
    have s1 : Same H (upd H r (.lst xs)) := same_new nr
    refine ⟨Nat.zero_le _, fun q nq nsq => ⟨_, _, rfl, ?_⟩⟩
    have s2 : Same (upd H r (.lst xs)) (upd (upd H r (.lst xs)) q (.lst [])) := same_new nq
    have rq : r ≠ q := fun z => by rw [← z, upd_same] at nq; cases nq
    have nH : H q = none := by rw [upd_ne rq.symm] at nq; exact nq
    have hp2 := (hp.same s1).same s2
    have ra : r ≠ a := fun z => hp.ne (by rw [← z]; exact nr)
    have qa : q ≠ a := fun z => hp.ne (by rw [← z]; exact nH)
    refine ⟨_, rfl, m, rfl, by omega, by omega, for_range (lo := 0) (n := m.toNat) (fun i σ H' => ∃ (ys zs : List V) (u : Option V), σ = [some (.ref a), some (.ref l), some (.int m), some (.ref r), some (.ref q), u] ∧
        (ys ++ zs).Perm xs ∧ ys.length = i ∧ H' r = some (.lst zs) ∧ H' q = some (.lst ys) ∧ PotAt a (N + i) H' ∧ ∀ b o, b ≠ a → b ≠ r → b ≠ q → H b = some o → H' b = some o) ?_ ?_ ?_⟩
    · refine ⟨[], xs, none, rfl, List.Perm.refl _, rfl, by rw [upd_ne rq, upd_same], upd_same, hp2, fun b o _ nr nq e => by rw [upd_ne nq, upd_ne nr]; exact e⟩
    · rintro i σ H' hi ⟨ys, zs, u, rfl, pm, hy, er, eq, pt, ex⟩
      have lz : zs.length = xs.length - i := by
        have := pm.length_eq
        rw [List.length_append, hy] at this
        omega
      refine ⟨_, rfl, .inl ⟨rfl, _, SqL.of eq⟩, _, rfl, .inl ⟨rfl, _, SqL.of er⟩, _, rfl, _, rfl, r, _, rfl, .inl (SqL.of er), ?_⟩
      refine ⟨a, _, N + i, rfl, pt, by omega, by omega, by omega, fun j H2 j0 j1 x2 p2 => ?_⟩
      have er2 : H2 r = some (.lst zs) := x2 _ _ ra er
      have eq2 : H2 q = some (.lst ys) := x2 _ _ qa eq
      obtain ⟨y, hyj⟩ : ∃ y, zs[j.toNat]? = some y := ⟨_, List.getElem?_eq_getElem (by omega)⟩
      have sx : seqIndex? j zs.length = some j.toNat := by
        unfold seqIndex?
        rw [if_neg (show ¬ j < 0 by omega)]
        simp only [Bool.and_eq_true, decide_eq_true_eq]
        rw [if_pos ⟨by omega, by omega⟩]
      refine ⟨r, zs, j, j.toNat, y, rfl, rfl, er2, by omega, by omega, sx, hyj, ?_⟩
      have eq3 : upd H2 r (.lst (zs.eraseIdx j.toNat)) q = some (.lst ys) := by rw [upd_ne rq.symm]; exact eq2
      refine ⟨q, _, _, rfl, rfl, eq3, ?_, ?_⟩
      · rw [sizeLine_eq]; omega
      refine ⟨ys ++ [y], zs.eraseIdx j.toNat, _, rfl, ?_, by rw [List.length_append, hy]; rfl, ?_, upd_same, ?_, fun b o na nbr nbq e => ?_⟩
      · rw [List.append_assoc]
        exact ((List.Perm.append_left ys (perm_erase hyj)).trans pm)
      · rw [upd_ne rq, upd_same]
      · obtain ⟨o, b, c, e, r0⟩ := p2
        exact ⟨o, b, c, by rw [upd_ne qa.symm, upd_ne ra.symm]; exact e, r0⟩
      · rw [upd_ne nbq, upd_ne nbr]
        exact x2 b o na (ex b o na nbr nbq e)
    · rintro σ H' ⟨ys, zs, u, rfl, pm, hy, er, eq, pt, ex⟩
      refine ⟨_, rfl, k ys q H' ⟨zs, pm⟩ hy (fun b o na e => ex b o na (ne_of_none e nr) (ne_of_none e nH) e) pt nH nsq eq⟩
end
end K6
set_option Elab.async false
set_option linter.all false
set_option maxRecDepth 100000
set_option maxHeartbeats 4000000
/-! Part D: comprehensions whose items are known; code that is never come to. -/
namespace Lk
open PySem PySem.Spec PyProof.Rows L2
theorem range_fm {α β : Type} (f : α → Option β) : ∀ xs : List α, (List.range xs.length).filterMap (fun i => (xs[i]?).bind f) = xs.filterMap f
  | [] => rfl
  | x :: xs => by
    rw [List.length_cons, List.range_succ_eq_map, List.filterMap_cons, List.filterMap_cons, List.filterMap_map]
    have ih := range_fm f xs
    have e : ((fun i => ((x :: xs)[i]?).bind f) ∘ Nat.succ) = fun i => (xs[i]?).bind f := by
      funext i
      simp
    rw [e, ih]
    rfl
/-- [e for t in it if ..]: which items go in, and as what, is told by f; nothing that was tracked changes -/
theorem lc_fm {α : Type} {J : It} {n : Nat} {G : Hp → Prop} {Y : Nat → Hp → V → Hp → Prop} (w : Walk J n G Y) {g : TG} {tt : TT} {te : TE} {vs : List Nat} {σ : L2.St} {H1 : Hp} {D : Addr} {Qd : Hp → Prop}
    (xs : List α) (f : α → Option V) (hn : xs.length = n) (few : n ≤ 100000) (nD : H1 D = none) (hG : ∀ H, Same H1 H → G H)
    (hs : ∀ i x a H H' (R : VK) (Rn : Hp → Prop), xs[i]? = some a → Same H1 H → Y i H x H' → (∀ H4 y, f a = some y → Same H H4 → R y H4) → (∀ H4, f a = none → Same H H4 → Rn H4) →
      g x (wipe σ vs) H' fun σ2 H2 => wipe σ2 vs = wipe σ vs ∧ tt σ2 H2 fun b H3 => if b = true then te σ2 H3 R else Rn H3)
    (hd : ∀ H, Same H1 H → H D = some (.lst (xs.filterMap f)) → Qd H) :
    ∃ W : Nat → Nat → Hp → Prop, (∃ m, W 0 m (upd H1 D (.lst []))) ∧ ∀ i m H, W i m H →
      (J.stop i H ∧ Qd H) ∨ (J.go i H ∧ ∃ Nx : Hp → Prop, (∀ H', Nx H' → ∃ m', m' < m ∧ W (i + 1) m' H') ∧ ∀ x H', J.yld i H x H' → g x (wipe σ vs) H' fun σ2 H2 => wipe σ2 vs = wipe σ vs ∧ tt σ2 H2 fun b H3 =>
        if b = true then te σ2 H3 fun y H4 => ∃ acc, H4 D = some (.lst acc) ∧ acc.length < sizeLine ∧ Nx (upd H4 D (.lst (acc ++ [y]))) else Nx H3) := by
  have len : ∀ i, ((List.range i).filterMap fun j => (xs[j]?).bind f).length ≤ i := fun i => by
    have := List.length_filterMap_le (fun j => (xs[j]?).bind f) (List.range i)
    rw [List.length_range] at this
    exact this
  refine lc_it w (fun i H => Same H1 H ∧ H D = some (.lst ((List.range i).filterMap fun j => (xs[j]?).bind f))) ⟨same_new nD, upd_same⟩ (fun i H _ p => hG H p.1) ?_ ?_
  · rintro i x H H' hi ⟨s, e⟩ y
    obtain ⟨a, ha⟩ : ∃ a, xs[i]? = some a := ⟨_, List.getElem?_eq_getElem (by omega)⟩
    refine hs i x a H H' _ _ ha s y (fun H4 z hz s4 => ?_) (fun H4 hz s4 => ?_)
    · refine ⟨_, s4 _ _ e, ?_, fun b o q => ?_, ?_⟩
      · have := len i
        rw [sizeLine_eq]
        omega
      · rw [upd_ne (ne_of_none q nD)]
        exact s4 _ _ (s _ _ q)
      · rw [upd_same, List.range_succ, List.filterMap_append]
        simp [ha, hz]
    · refine ⟨s.trans s4, ?_⟩
      rw [s4 _ _ e, List.range_succ, List.filterMap_append]
      simp [ha, hz]
  · rintro H ⟨s, e⟩
    refine hd H s ?_
    rw [e, ← hn, range_fm]
/-- what a comprehension over J asks -/
def LcR (J : It) (g : TG) (tt : TT) (te : TE) (vs : List Nat) (σ : L2.St) (H1 : Hp) (Q : VK) : Prop := ∀ D, H1 D = none → ∃ W : Nat → Nat → Hp → Prop, (∃ m, W 0 m (upd H1 D (.lst []))) ∧ ∀ i m H, W i m H →
  (J.stop i H ∧ Q (.ref D) H) ∨ (J.go i H ∧ ∃ Nx : Hp → Prop, (∀ H', Nx H' → ∃ m', m' < m ∧ W (i + 1) m' H') ∧ ∀ x H', J.yld i H x H' → g x (wipe σ vs) H' fun σ2 H2 => wipe σ2 vs = wipe σ vs ∧ tt σ2 H2 fun b H3 =>
    if b = true then te σ2 H3 fun y H4 => ∃ acc, H4 D = some (.lst acc) ∧ acc.length < sizeLine ∧ Nx (upd H4 D (.lst (acc ++ [y]))) else Nx H3)
/-- a list or a tuple -/
def Sq (K : PySem.W.Frag) (H : Hp) (a : Addr) (xs : List V) : Prop := SqL K H a xs ∨ SqT K H a xs
theorem sqT_same {K : PySem.W.Frag} {H H' : Hp} {a : Addr} {xs : List V} (e : Same H H') (h : SqT K H a xs) : SqT K H' a xs := by
  rcases h with (h | ⟨o, h⟩) | h
  · exact .inl (.inl (e _ _ h))
  · exact .inl (.inr ⟨o, e _ _ h⟩)
  · exact .inr h
theorem Sq.same {K : PySem.W.Frag} {H H' : Hp} {a : Addr} {xs : List V} (h : Sq K H a xs) (e : Same H H') : Sq K H' a xs := h.elim (fun h => .inl (e.seq h)) fun h => .inr (sqT_same e h)
theorem sqL_ext {K : PySem.W.Frag} {a l : Addr} {xs : List V} {H H' : Hp} (h : SqL K H l xs) (n : l ≠ a) (x : ExtP a H H') : SqL K H' l xs := by
  rcases h with (h | ⟨o, h⟩) | h
  · exact .inl (.inl (x _ _ n h))
  · exact .inl (.inr ⟨o, x _ _ n h⟩)
  · exact .inr h
theorem sqT_ext {K : PySem.W.Frag} {a l : Addr} {xs : List V} {H H' : Hp} (h : SqT K H l xs) (n : l ≠ a) (x : ExtP a H H') : SqT K H' l xs := by
  rcases h with (h | ⟨o, h⟩) | h
  · exact .inl (.inl (x _ _ n h))
  · exact .inl (.inr ⟨o, x _ _ n h⟩)
  · exact .inr h
theorem Sq.ext {K : PySem.W.Frag} {a l : Addr} {xs : List V} {H H' : Hp} (h : Sq K H l xs) (n : l ≠ a) (x : ExtP a H H') : Sq K H' l xs := h.elim (fun h => .inl (sqL_ext h n x)) fun h => .inr (sqT_ext h n x)
/-- for .. in x, x a name that holds a list or a tuple -/
def iSeq (K : PySem.W.Frag) (i : Nat) : TI := fun σ H R => ∃ a, σ[i]? = some (some (.ref a)) ∧ (((∃ xs, SqL K H a xs) ∧ R (Itl K a) H) ∨ ((∃ xs, SqT K H a xs) ∧ R (Itt K a) H))
theorem pi_seq {X : Cx} {tg e : Expr} {i : Nat} (h1 : PI X tg e (iList X.K (tVar i))) (h2 : PI X tg e (iTup X.K (tVar i))) : PI X tg e (iSeq X.K i) := by
  constructor
  rintro pins s σ H R I ⟨a, e, ⟨hx, hr⟩ | ⟨hx, hr⟩⟩
  · exact h1.run pins s σ H R I ⟨_, e, a, rfl, hx, hr⟩
  · exact h2.run pins s σ H R I ⟨_, e, a, rfl, hx, hr⟩
theorem lc_over {α : Type} {J : It} {G : Hp → Prop} {vs0 : List V} (w : Walk J vs0.length G (YAt vs0)) {g : TG} {tt : TT} {te : TE} {vs : List Nat} {σ : L2.St} {H1 : Hp} {Q : VK}
    (xs : List α) (e : α → V) (f : α → Option V) (hv : vs0 = xs.map e) (few : xs.length ≤ 100000) (hG : ∀ H, Same H1 H → G H)
    (hs : ∀ (i : Nat) b H (R : VK) (Rn : Hp → Prop), xs[i]? = some b → Same H1 H → (∀ H4 y, f b = some y → Same H H4 → R y H4) → (∀ H4, f b = none → Same H H4 → Rn H4) →
      g (e b) (wipe σ vs) H fun σ2 H2 => wipe σ2 vs = wipe σ vs ∧ tt σ2 H2 fun c H3 => if c = true then te σ2 H3 R else Rn H3)
    (hd : ∀ D H, H1 D = none → Same H1 H → H D = some (.lst (xs.filterMap f)) → Q (.ref D) H) : LcR J g tt te vs σ H1 Q := by
  intro D nD
  have hl : vs0.length = xs.length := by rw [hv, List.length_map]
  refine lc_fm w xs f (by rw [hl]) (by rw [hl]; exact few) nD hG ?_ (fun H s e => hd D H nD s e)
  rintro i x b H H' R Rn hb s ⟨rfl, hx⟩ k1 k2
  have : x = e b := by
    rw [hv, List.getElem?_map, hb] at hx
    exact (Option.some.inj hx).symm
  subst this
  exact hs i b _ R Rn hb s k1 k2
/-- a comprehension over a list or a tuple -/
theorem seq_lc {α : Type} {K : PySem.W.Frag} {a : Addr} {g : TG} {tt : TT} {te : TE} {vs : List Nat} {σ : L2.St} {H1 : Hp} {Q : VK}
    (xs : List α) (e : α → V) (f : α → Option V) (hq : Sq K H1 a (xs.map e)) (few : xs.length ≤ 100000)
    (hs : ∀ (i : Nat) b H (R : VK) (Rn : Hp → Prop), xs[i]? = some b → Same H1 H → (∀ H4 y, f b = some y → Same H H4 → R y H4) → (∀ H4, f b = none → Same H H4 → Rn H4) →
      g (e b) (wipe σ vs) H fun σ2 H2 => wipe σ2 vs = wipe σ vs ∧ tt σ2 H2 fun c H3 => if c = true then te σ2 H3 R else Rn H3)
    (hd : ∀ D H, H1 D = none → Same H1 H → H D = some (.lst (xs.filterMap f)) → Q (.ref D) H) :
    ((∃ zs, SqL K H1 a zs) ∧ LcR (Itl K a) g tt te vs σ H1 Q) ∨ ((∃ zs, SqT K H1 a zs) ∧ LcR (Itt K a) g tt te vs σ H1 Q) := by
  rcases hq with hq | hq
  · exact .inl ⟨⟨_, hq⟩, lc_over walk_list xs e f rfl few (fun H s => s.seq hq) hs hd⟩
  · exact .inr ⟨⟨_, hq⟩, lc_over walk_tup xs e f rfl few (fun H s => sqT_same s hq) hs hd⟩
/-- what is never come to -/
theorem ps_no {X : Cx} {st : Stmt} : PS X st (fun _ _ _ => False) := ⟨fun _ _ _ _ _ _ h => h.elim⟩
theorem pss_no {X : Cx} {st : List Stmt} : PSs X st (fun _ _ _ => False) := ⟨fun _ _ _ _ _ _ h => h.elim⟩
theorem pe_no {X : Cx} {e : Expr} : PE X e (fun _ _ _ => False) := ⟨fun _ _ _ _ _ _ h => h.elim⟩
theorem pt_no {X : Cx} {e : Expr} : PT X e (fun _ _ _ => False) := ⟨fun _ _ _ _ _ _ h => h.elim⟩
theorem pw_no {X : Cx} {e : Expr} : PW X e (fun _ _ _ => False) := ⟨fun _ _ _ _ _ _ _ h => h.elim⟩
theorem iteB {A B : Prop} {c : Bool} (h : c = false) (hb : B) : if c = true then A else B := by
  rw [h]
  exact iteF hb
theorem iteA {A B : Prop} {c : Bool} (h : c = true) (ha : A) : if c = true then A else B := by
  rw [h]
  exact iteT ha
end Lk
set_option Elab.async false
set_option linter.all false
set_option maxRecDepth 100000
set_option maxHeartbeats 4000000
/-! Part T: new tuples that have no dict of their own; their methods. -/
namespace Lk
open PySem PySem.Spec PyProof.Rows L2
/-- a new tuple that is known as an object: no dict -/
def TupX (H : Hp) (a : Addr) (xs : List V) : Prop := ∃ ob, H a = some (.frz ob (.tup xs)) ∧ ob.cls = .type "tuple" ∧ ob.dict = none
theorem TupX.sq {K : PySem.W.Frag} {H : Hp} {a : Addr} {xs : List V} (h : TupX H a xs) : SqT K H a xs := by
  obtain ⟨ob, e, _⟩ := h
  exact .inl (.inr ⟨ob, e⟩)
theorem TupX.same {H H' : Hp} {a : Addr} {xs : List V} (h : TupX H a xs) (s : Same H H') : TupX H' a xs := by
  obtain ⟨ob, e, r⟩ := h
  exact ⟨ob, s _ _ e, r⟩
/-- tuple(x), x a list: a new tuple without a dict -/
def kTupX (K : PySem.W.Frag) (x : V) (H : Hp) (Q : VK) : Prop := ∃ l xs, x = .ref l ∧ SqL K H l xs ∧ ∀ a H', H a = none → Same H H' → TupX H' a xs → Q (.ref a) H'
theorem pe_tupleX {X : Cx} {a : Expr} {ta : TE} {u pos : Pos} (hg : Gl X "tuple") (hm : X.mg "tuple" = none) (ha : PE X a ta) (na : starEach [a] X.env = (false, eval a X.env) :: starEach [] X.env := by rfl) :
    PE X (.Call (.Name "tuple" u) [a] [] pos) (tThen ta (kTupX X.K)) := by
  refine ⟨fun pins s σ H Q I h => Call_ (ld_blt I hg hm boot_tuple (callWith_type1 (one_arg ha I h (fun v s2 x H2 I2 r q => ?_) na) na rfl))⟩
  obtain ⟨l, xs, rfl, sq, q⟩ := q
  obtain rfl : v = .ref l := r
  obtain ⟨its, rv, pl, few⟩ := I2.list sq
  refine call_tuple_list pl.isList (fun h' keep => ?_) (by rw [List.size_toArray, ← rv.length] <;> exact few)
  have I3 : Inv X pins σ H2 { s2 with heap := h' } := I2.kept (t' := s2.toks) keep
  have at_ : (h'.push { cls := .type "tuple", data := .seq its.toArray }).get? h'.objs.size = some { cls := .type "tuple", data := .seq its.toArray } := Heap.get?_push_size _ rfl
  have I4 : Inv X pins σ (upd H2 h'.objs.size (.frz { cls := .type "tuple", data := .seq its.toArray } (.tup xs))) { s2 with heap := h'.push { cls := .type "tuple", data := .seq its.toArray } } :=
    I3.laid (t' := s2.toks) (fun b o e => Heap.get?_push_of_some _ e) (Nat.le_refl _) (show ObjOk X.prog X.w _ _ _ (.frz _ (.tup xs)) from ⟨at_, few, its, rv, IsTup.new _ _⟩)
  have fr := I3.hok.fresh (Nat.le_refl h'.objs.size)
  exact ⟨.ref h'.objs.size, _, I4, rfl, q _ _ fr (same_new fr) ⟨_, upd_same, rfl, rfl⟩⟩
/-- t.m(e ..), t such a tuple -/
def tBMX (r : V → List V → Hp → VK → Prop) (to : TE) (t : TA) : TE := fun σ H Q => to σ H fun x H1 => (∃ a xs, x = .ref a ∧ TupX H1 a xs) ∧ t σ H1 fun vs H2 => r x vs H2 Q
theorem pe_bmX {X : Cx} {o e : Expr} {es : List Expr} {to : TE} {t : TA} {name : Str} {apos cpos : Pos} {id : String} {r : V → List V → Hp → VK → Prop} (slot : Slot "tuple" name id) (hty : typeOf (.builtin id) = pure (.type "method_descriptor")) (hm : MtR X id r) (ho : PE X o to) (ha : PA X (e :: es) t)
    (hbase : attributeBase o name X.env (eval o X.env) = eval o X.env := by rfl)
    (hfew : ((backTo cpos (starEach (e :: es) X.env)).all (fun y => !y.1) && (backToKw cpos (keywordEach [] X.env)).all (fun y => y.1.isSome) && decide ((e :: es).length + ([] : List Keyword).length + (if ([] : List Keyword).isEmpty then 0 else 1) < 30)) = true := by rfl)
    (hline : (apos.endLine == cpos.line) = true := by rfl) (hs : starEach (e :: es) X.env = (false, eval e X.env) :: starEach es X.env := by rfl) (hpl : (backTo cpos (starEach es X.env)).any (·.1) = false := by rfl) : PE X (.Call (.Attribute o name apos) (e :: es) [] cpos) (tBMX r to t) := by
  refine ⟨fun pins s σ H Q I h => wpAny_Call_method_late hbase hfew hline rfl (thn (ho.run pins s σ H _ I h) fun v s1 ⟨x, H1, I1, r1, ⟨a, xs, ex, ob, ea, ec, ed⟩, q1⟩ => ?_)⟩
  subst ex
  obtain rfl : v = .ref a := r1
  obtain ⟨at_, _⟩ := (show ObjOk X.prog X.w H1 s1.heap a (.frz ob (.tup xs)) from I1.hok a _ ea)
  refine ⟨"tuple", id, PySem.F.plainAttrs_tuple, slot, hty, ⟨ob, at_, ec⟩, fun b e => ?_, ?_⟩
  · cases e
    exact ⟨ob, at_, ed⟩
  have go := ha.run cpos pins s1 σ H1 _ I1 q1
  rw [hs] at go ⊢
  refine Calls.callWith_builtin (by show (false || (backTo cpos (starEach es X.env)).any (·.1)) = false; rw [hpl] <;> rfl) (Calls.evalArgs_plain ?_)
  exact thn go fun us s2 ⟨vs, H2, I2, r2, q2⟩ => hm pins s2 σ H2 (.ref a) vs (.ref a) us Q I2 rfl r2 q2
end Lk
set_option Elab.async false
set_option linter.all false
set_option maxRecDepth 100000
set_option maxHeartbeats 4000000
set_option pp.maxSteps 1200
set_option pp.deepTerms false
namespace K6
open PySem PySem.Spec PyProof.Rows L2 Lk
section
variable {P : Program} {w : World} {K : PySem.W.Frag} {mg : Str → Option Value} {base : Heap} {f : Addr} {fd : FuncData}
abbrev sNames : Stmt := top 45
abbrev sLotOf : Stmt := top 46
theorem perm_map {α β : Type} {f : α → β} {l1 l2 : List β} (h : l1.Perm l2) : ∀ xs : List α, l2 = xs.map f → ∃ zs : List α, zs.Perm xs ∧ l1 = zs.map f := by
  induction h with
  | nil =>
    intro xs e
    have : xs = [] := List.map_eq_nil_iff.mp e.symm
    subst this
    exact ⟨[], List.Perm.refl _, rfl⟩
  | cons x _ ih =>
    intro xs e
    cases xs with
    | nil => cases e
    | cons a xs =>
      injection e with e1 e2
      obtain ⟨zs, p, q⟩ := ih xs e2
      exact ⟨a :: zs, p.cons a, by rw [List.map_cons, ← q, ← e1]⟩
  | swap x y l =>
    intro xs e
    match xs, e with
    | a :: b :: xs, e =>
      injection e with e1 e2
      injection e2 with e2 e3
      exact ⟨b :: a :: xs, List.Perm.swap a b xs, by rw [List.map_cons, List.map_cons, ← e1, ← e2, ← e3]⟩
  | trans _ _ ih1 ih2 =>
    intro xs e
    obtain ⟨ys, p, q⟩ := ih2 xs e
    obtain ⟨zs, p', q'⟩ := ih1 ys q
    exact ⟨zs, p'.trans p, q'⟩
theorem Sel.map {α β : Type} {f : α → β} {ys : List β} {xs : List α} (h : Sel ys (xs.map f)) : ∃ zs, ys = zs.map f ∧ Sel zs xs := by
  obtain ⟨rs, p⟩ := h
  obtain ⟨ws, q, e⟩ := perm_map p xs rfl
  have e1 : ys = (ws.take ys.length).map f := by rw [List.map_take, ← e, List.take_left]
  refine ⟨ws.take ys.length, e1, ws.drop ys.length, ?_⟩
  rw [List.take_append_drop]
  exact q
theorem inV_str (z : Str) : ∀ zs : List Str, inV (.str z) (zs.map V.str) = decide (z ∈ zs)
  | [] => rfl
  | y :: ys => by
    show (eqV (.str y) (.str z) || inV (.str z) (ys.map V.str)) = _
    rw [inV_str z ys]
    by_cases e : z = y
    · subst e
      simp [eqV]
    · have e' : ¬ y = z := fun q => e q.symm
      simp [eqV, e, e']
theorem flat_strs : ∀ zs : List Str, (zs.map V.str).all flatV = true
  | [] => rfl
  | _ :: ys => by
    show (true && (ys.map V.str).all flatV) = true
    rw [flat_strs ys]
    rfl
def namePool : List Str := ["a", "b", "c", "d", "e", "f", "keeper", "parts", "write", "ask", "zzzzzzzz", "x"]
def spNames : Sp := fun vs H Q _ => ∃ (a : Addr) (fw up : Int) (N : Nat), vs = [.ref a, .int fw, .int up] ∧ PotAt a N H ∧ N ≤ 100000 ∧ 0 ≤ fw ∧ fw ≤ up ∧ up ≤ 12 ∧
  ∀ (ys : List Str) (p : Addr) (H' : Hp), Sel ys namePool → fw ≤ ys.length → ys.length ≤ up → ExtP a H H' → PotAt a (N + 20) H' → H p = none → TupX H' p (ys.map V.str) → Q (.ref p) H'
theorem scNames : FnScope ["pot", "few", "upmost", "pool"] ["pot", "few", "upmost"] (defScope sNames) := ⟨rfl, rfl, rfl, by decide +kernel, rfl, by decide +kernel, by decide +kernel⟩
theorem ok_names {f1 f2 : Addr} {fd1 fd2 : FuncData} (F : Fun K "_law_names" "_law_names" sNames f fd) (T : Bl mg) (hT : mg "tuple" = none) (F1 : Fun K "_law_take" "_law_take" sTake f1 fd1) (b1 : Binds K fd1 ["pot", "upto"] []) (m1 : mg "_law_take" = some (.ref f1))
    (F2 : Fun K "_law_some" "_law_some" sSome f2 fd2) (b2 : Binds K fd2 ["pot", "pool", "amount"] []) (m2 : mg "_law_some" = some (.ref f2)) : FnOk P w K mg base CX0 3 f fd ["pot", "few", "upmost"] spNames := by
  have G1 : FnOk P w K mg base CX0 1 f1 fd1 ["pot", "upto"] spTake := ok_take F1 T
  have G2 : FnOk P w K mg base CX0 2 f2 fd2 ["pot", "pool", "amount"] (spSome K) := ok_some F2 T F1 b1 m1
  refine F.ok scNames (fun vs H Q E h => ?_) (fun cdv A outer s H vs Q E hr h => ?_)
  · obtain ⟨a, fw, up, N, rfl, _⟩ := h
    rfl
  · obtain ⟨a, fw, up, N, rfl, hp, hN, f0, fu, u12, k⟩ := h
    have nd := scNames.nd
    have hr1 : Room 1 _ := hr.mono (by decide)
    have hr2 : Room 2 _ := hr.mono (by decide)
    refine ⟨_, pss_cons (ps_set (i := 3) nd rfl (.inl rfl) (pe_lst (by exact (pa_cons pe_str (pa_cons pe_str (pa_cons pe_str (pa_cons pe_str (pa_cons pe_str (pa_cons pe_str (pa_cons pe_str (pa_cons pe_str (pa_cons pe_str (pa_cons pe_str (pa_cons pe_str (pa_cons pe_str pa_nil))))))))))))))
      ) (pss_one (ps_ret (pe_tupleX (by rfl) hT (pe_call G2 hr2 rfl m2 F2.kp b2 .nil pass0 (pa_cons (pv 0) (pa_cons (pv 3) (pa_cons (pe_op op_add (pv 1) (pe_call G1 hr1 rfl m1 F1.kp b1 .nil pass0 (pa_cons (pv 0) (pa_cons (pe_op op_add (pe_op op_sub (pv 2) (pv 1)) pe_int) pa_nil)))) pa_nil))))))), ?_⟩
    refine ⟨few_ok rfl, fun l nl => ?_⟩
    have s1 : Same H (upd H l (.lst (namePool.map V.str))) := same_new nl
    have hl : (upd H l (.lst (namePool.map V.str))) l = some (.lst (namePool.map V.str)) := upd_same
    have la : l ≠ a := fun z => hp.ne (by rw [← z]; exact nl)
    refine ⟨_, rfl, _, rfl, _, rfl, _, rfl, _, rfl, _, rfl, _, _, rfl, rfl, _, _, rfl, rfl, a, _, N, rfl, hp.same s1, by omega, by omega, by omega, fun i H2 i0 i1 x2 p2 => ?_⟩
    refine ⟨_, _, rfl, rfl, a, l, fw + i, N + 1, namePool.map V.str, rfl, p2, by omega, .inl (SqL.of (x2 _ _ la hl)), by omega, by show fw + i ≤ 12; omega, by decide, fun ys p H' sel hy ex pt np ns e => ?_⟩
    obtain ⟨zs, rfl, sz⟩ := sel.map
    rw [List.length_map] at hy
    refine ⟨p, _, rfl, SqL.of e, fun q H3 nq s3 tq => ?_⟩
    have X : ExtP a H H' := ((ExtP.of s1).trans x2).trans ex
    have qa : q ≠ a := fun z => pt.ne (by rw [← z]; exact nq)
    exact k zs q H3 sz (by omega) (by omega) (X.trans (.of s3)) ((pt.same s3).mono (by omega)) (by
      cases z : H q with
      | none => rfl
      | some u => rw [X _ _ qa z] at nq; cases nq) tq
theorem fm_if (q : Str → Prop) [DecidablePred q] : ∀ ps : List Str, ps.filterMap (fun x => if q x then some (V.str x) else none) = (ps.filter fun x => decide (q x)).map V.str
  | [] => rfl
  | p :: ps => by
    have ih := fm_if q ps
    by_cases h : q p
    · simp [List.filterMap_cons, List.filter_cons, h, ih]
    · simp [List.filterMap_cons, List.filter_cons, h, ih]
def spLotOf (K : PySem.W.Frag) : Sp := fun vs H Q _ => ∃ (n s : Addr) (ns ss : List Str), vs = [.ref n, .ref s] ∧ Sq K H n (ns.map V.str) ∧ Sq K H s (ss.map V.str) ∧ ns.length ≤ 100 ∧
  ∀ p H', Same H H' → H p = none → H' p = some (.tup ((ns.filter fun p => decide (p ∈ ss)).map V.str)) → Q (.ref p) H'
theorem scLotOf : FnScope ["names", "some", "name"] ["names", "some"] (defScope sLotOf) := ⟨rfl, rfl, rfl, by decide +kernel, rfl, by decide +kernel, by decide +kernel⟩
theorem ok_lotOf (F : Fun K "_law_lot_of" "_law_lot_of" sLotOf f fd) (hT : mg "tuple" = none) : FnOk P w K mg base CX0 1 f fd ["names", "some"] (spLotOf K) := by
  refine F.ok scLotOf (fun vs H Q E h => ?_) (fun cdv A outer s H vs Q E hr h => ?_)
  · obtain ⟨n, q, ns, ss, rfl, _⟩ := h
    rfl
  · obtain ⟨n, q, ns, ss, rfl, hn, hs, n100, k⟩ := h
    have nd := scLotOf.nd
    refine ⟨_, pss_one (ps_ret (pe_tupleOf (by rfl) hT (pe_lc (own := [("name", 2)]) (g := gName 2) (tt := tTest (tOp (rIn K false) (tVar 2) (tVar 1))) rfl nd (pi_seq (pi_list (pv 0)) (pi_tup (pv 0))) (blkOk_by (N := ["names", "some", "name"]) (sc := defScope sLotOf) (by decide +kernel))
        (fun _ _ _ _ _ => pg_name (i := 2) nd rfl (Or.inl rfl)) (fun _ _ _ _ _ => pts_one (pt_cmpR op_in_seq (pv 2) (pv 1) rfl)) (fun _ _ _ _ _ => pv 2)))), ?_⟩
    refine ⟨n, rfl, seq_lc (Q := fun x H1 => kTup K x H1 Q) ns V.str (fun p => if p ∈ ss then some (V.str p) else none) hn (by omega) ?_ ?_⟩
    · intro j b H' R Rn hb s' k1 k2
      refine ⟨rfl, _, rfl, _, rfl, q, _, rfl, hs.same s', rfl, flat_strs _, _, rfl, ?_⟩
      rw [inV_str]
      by_cases hz : b ∈ ss
      · refine iteA (by simp [hz]) ?_
        exact ⟨_, rfl, k1 _ _ (by simp [hz]) (Same.refl _)⟩
      · refine iteB (by simp [hz]) ?_
        exact k2 _ (by simp [hz]) (Same.refl _)
    · intro D H' nD s' e
      rw [fm_if] at e
      exact .inl ⟨D, _, rfl, SqL.of e, fun T nT => k T _ (s'.trans (same_new nT)) (s'.free nT) upd_same⟩
/-- a piece: some parts, in their sequence -/
def PieceOk (ps piece : List Str) : Prop := piece ≠ [] ∧ piece = ps.filter fun p => decide (p ∈ piece)
end
end K6
set_option Elab.async false
set_option linter.all false
set_option maxRecDepth 100000
set_option maxHeartbeats 4000000
/-! Part E: == by an own __eq__, whatever it answers and whatever stands on the right. -/
namespace Lk
open PySem PySem.Spec PyProof.Rows L2
/-- x == y, x an instance of the class at C whose __eq__ keeps the promise sp -/
def rEqI (K : PySem.W.Frag) (C : Addr) (sp : Sp) : R2 := fun x y H Q => ∃ a dx fs t, x = .ref a ∧ H a = some (.ins C dx fs) ∧ TyX K H y t ∧ PySem.W.notFirst K C t = true ∧ sp [x, y] H (fun v H' => ∃ b, v = .bl b ∧ Q v H') E0
theorem op_eqI {X : Cx} {C f : Addr} {n : Nat} {fd : FuncData} {ps : List Str} {sp : Sp} (F : FnOk X.prog X.w X.K X.mg X.base CX0 n f fd ps sp) (hs : PySem.W.findIn X.K (.ref C) "__eq__" = some (some (.ref f))) (hf : PySem.W.isFn X.K (.ref f) = true) (hb : Binds X.K fd ps []) (hr : Room n X.A) :
    OpR X (compareOp .Eq) (rEqI X.K C sp) := by
  rintro pins s σ H x y v u Q I rx ry ⟨a, dx, fs, t, rfl, ha, ty, nf, hsp⟩
  obtain rfl : v = .ref a := rx
  obtain ⟨mA, J, _⟩ := ins_get I.hok ha
  obtain ⟨od, J, _⟩ := J.look
  obtain ⟨m, fr⟩ := I.fr
  obtain ⟨Z, kit, hZ, _⟩ := kit_of I ry ty
  show wpAny (model X.prog X.w) X.A (richCompare .Eq (.ref a) u) (EP X pins σ Q) X.xe s
  refine PySem.W.cmp_K (op := .Eq) (tb := t) hr.units0 fr I.ok.mod.kin J (kit.ty _ _ I.kIn hZ) nf hs hf ?_
  have rel : Vals [V.ref a, y] [Value.ref a, u] := .cons rfl (.cons ry .nil)
  have len := F.len _ _ _ _ hsp
  have bind := hb s [Value.ref a, u] I.kIn (by simpa using len)
  rw [List.append_nil] at bind
  refine wpAny_call (codeAny_mono (F.run X.A X.stack s H ⟨[.ref a, u], []⟩ [.ref a, u] [.ref a, y] _ E0 hr I.env0 bind rel hsp) fun r s' hq => ?_)
  cases r with
  | error e => exact hq.elim
  | ok fl =>
    cases fl with
    | ret w =>
      obtain ⟨z, H', J', rz, b, rfl, q⟩ := I.after hq
      cases rz
      exact ⟨.bl b, H', J', rfl, q⟩
    | next => exact False.elim hq
    | brk => exact False.elim hq
    | cont => exact False.elim hq
/-- the class at C has an own __eq__ at f, no __ne__, and no class above it but object -/
def NeC (K : PySem.W.Frag) (C f : Addr) : Prop := ∀ (h : Heap) (x : Addr) (o : Obj), K.In h → h.get? x = some o → o.cls = .ref C → h.OwnEqNoNe x C f "object" [.type "object"]
/-- x != y of two instances of such a class -/
def rNeI (C : Addr) (sp : Sp) : R2 := fun x y H Q => ∃ a b dx dy fs gs, x = .ref a ∧ y = .ref b ∧ H a = some (.ins C dx fs) ∧ H b = some (.ins C dy gs) ∧ sp [x, y] H (fun v H' => ∃ r, v = .bl r ∧ Q (.bl (!r)) H') E0
theorem op_neI {X : Cx} {C f : Addr} {n : Nat} {fd : FuncData} {ps : List Str} {sp : Sp} (F : FnOk X.prog X.w X.K X.mg X.base CX0 n f fd ps sp) (N : NeC X.K C f) (hb : Binds X.K fd ps []) (hr : Room (n + 1) X.A) : OpR X (compareOp .NotEq) (rNeI C sp) := by
  rintro pins s σ H x y v u Q I rx ry ⟨a, b, dx, dy, fs, gs, rfl, rfl, ha, hb2, hsp⟩
  obtain rfl : v = .ref a := rx
  obtain rfl : u = .ref b := ry
  obtain ⟨mA, J, _⟩ := ins_get I.hok ha
  obtain ⟨mB, J2, _⟩ := ins_get I.hok hb2
  obtain ⟨od, J, _⟩ := J.look
  obtain ⟨od2, J2, _⟩ := J2.look
  have sb : Sub X (n + 1) X.A := ⟨hr, rfl⟩
  have e := I.env0
  have e1 : Env0 X.prog X.w X.K X.mg X.base X.A.in1 X.stack s H := ⟨by rw [sb.in1.fr]; exact e.frames, e.mod, e.bs, e.bsz, e.funs, e.frf, e.hok, e.bare⟩
  have rel : Vals [V.ref a, V.ref b] [Value.ref a, Value.ref b] := .cons rfl (.cons rfl .nil)
  have len := F.len _ _ _ _ hsp
  have bind := hb s [Value.ref a, Value.ref b] I.kIn (by simpa using len)
  rw [List.append_nil] at bind
  obtain ⟨hp, g, d, t, os⟩ := s
  refine compareOp_ne_ownEq PySem.F.cmp_object (N hp a _ I.kIn J.at_ J.cls) J2.at_ J2.cls (by have := hr.units; omega) ?_
  refine wpAny_call (codeAny_mono (F.run X.A.in1 X.stack _ H ⟨[.ref a, .ref b], []⟩ [.ref a, .ref b] [.ref a, .ref b] _ E0 sb.in1.room e1 bind rel hsp) fun r s' hq => ?_)
  cases r with
  | error e => exact hq.elim
  | ok fl =>
    cases fl with
    | ret w =>
      obtain ⟨z, H', J', rz, r, rfl, q⟩ := I.after hq
      cases rz
      exact ⟨r, rfl, .bl (!r), H', J', rfl, q⟩
    | next => exact False.elim hq
    | brk => exact False.elim hq
    | cont => exact False.elim hq
/-- run such a method, at A: what it answers comes back in the abstract -/
theorem run_own {X : Cx} {f : Addr} {n : Nat} {fd : FuncData} {ps : List Str} {sp : Sp} {pins : List (Addr × Obj)} {s : Shared} {σ : L2.St} {H : Hp} {xs : List V} {us : List Value} {R : VK} {A : Around} (F : FnOk X.prog X.w X.K X.mg X.base CX0 n f fd ps sp) (hb : Binds X.K fd ps []) (sb : Sub X n A)
    (I : Inv X pins σ H s) (rel : Vals xs us) (hsp : sp xs H R E0) {Q : Value → Shared → Prop} {E : Value → Shared → Prop} (go : ∀ z v H' s', Inv X pins σ H' s' → RelV z v → R z H' → Q v s') : wpAny (model X.prog X.w) A (call (.ref f) us) Q E s := by
  have e := I.env0
  have e1 : Env0 X.prog X.w X.K X.mg X.base A X.stack s H := ⟨by rw [sb.fr]; exact e.frames, e.mod, e.bs, e.bsz, e.funs, e.frf, e.hok, e.bare⟩
  have len := F.len _ _ _ _ hsp
  have bind := hb s us I.kIn (by rw [List.append_nil, ← rel.length]; exact len)
  rw [List.append_nil] at bind
  refine wpAny_call (codeAny_mono (F.run A X.stack s H ⟨us, []⟩ us xs _ E0 sb.room e1 bind rel hsp) fun r s' hq => ?_)
  cases r with
  | error e => exact hq.elim
  | ok fl =>
    cases fl with
    | ret w =>
      obtain ⟨z, H', J', rz, q⟩ := I.after hq
      exact go z w H' s' J' rz q
    | next => exact False.elim hq
    | brk => exact False.elim hq
    | cont => exact False.elim hq
/-- x in y, x not in y: y an instance of the class at C with its own __contains__ -/
def rInI (C : Addr) (sp : Sp) (neg : Bool) : R2 := fun x y H Q => ∃ a dx fs, y = .ref a ∧ H a = some (.ins C dx fs) ∧ sp [y, x] H (fun v H' => ∃ b, v = .bl b ∧ Q (.bl (if neg then !b else b)) H') E0
theorem op_inI {X : Cx} {C f : Addr} {n : Nat} {fd : FuncData} {ps : List Str} {sp : Sp} (F : FnOk X.prog X.w X.K X.mg X.base CX0 n f fd ps sp) (hs : PySem.W.findIn X.K (.ref C) "__contains__" = some (some (.ref f))) (hf : PySem.W.isFn X.K (.ref f) = true) (hb : Binds X.K fd ps []) (hr : Room n X.A) :
    OpR X (compareOp .In) (rInI C sp false) := by
  rintro pins s σ H x y v u Q I rx ry ⟨a, dx, fs, rfl, ha, hsp⟩
  obtain rfl : u = .ref a := ry
  obtain ⟨mA, J, _⟩ := ins_get I.hok ha
  obtain ⟨od, J, _⟩ := J.look
  obtain ⟨m, fr⟩ := I.fr
  refine PySem.W.in_K fr I.ok.mod.kin J hs hf (run_own F hb ⟨hr, rfl⟩ I (show Vals [V.ref a, x] [Value.ref a, v] from .cons rfl (.cons rx .nil)) hsp fun z w H' s' J' rz ⟨b, ez, q⟩ => ?_)
  subst ez
  cases rz
  exact wpAny_truthy_bool ⟨.bl b, H', J', rfl, q⟩
theorem op_notInI {X : Cx} {C f : Addr} {n : Nat} {fd : FuncData} {ps : List Str} {sp : Sp} (F : FnOk X.prog X.w X.K X.mg X.base CX0 n f fd ps sp) (hs : PySem.W.findIn X.K (.ref C) "__contains__" = some (some (.ref f))) (hf : PySem.W.isFn X.K (.ref f) = true) (hb : Binds X.K fd ps []) (hr : Room n X.A) :
    OpR X (compareOp .NotIn) (rInI C sp true) := by
  rintro pins s σ H x y v u Q I rx ry ⟨a, dx, fs, rfl, ha, hsp⟩
  obtain rfl : u = .ref a := ry
  obtain ⟨mA, J, _⟩ := ins_get I.hok ha
  obtain ⟨od, J, _⟩ := J.look
  obtain ⟨m, fr⟩ := I.fr
  refine PySem.W.notIn_K fr I.ok.mod.kin J hs hf (run_own F hb ⟨hr, rfl⟩ I (show Vals [V.ref a, x] [Value.ref a, v] from .cons rfl (.cons rx .nil)) hsp fun z w H' s' J' rz ⟨b, ez, q⟩ => ?_)
  subst ez
  cases rz
  exact wpAny_truthy_bool ⟨.bl (!b), H', J', rfl, q⟩
/-- len(x), x an instance of the class at C with its own __len__ -/
def rLenI (C : Addr) (sp : Sp) : List V → Hp → VK → Prop := fun xs H Q => ∃ a dx fs, xs = [.ref a] ∧ H a = some (.ins C dx fs) ∧ sp xs H (fun v H' => ∃ k : Int, v = .int k ∧ 0 ≤ k ∧ k < 1000000 ∧ Q (.int k) H') E0
theorem call_lenI {X : Cx} {C f : Addr} {n : Nat} {fd : FuncData} {ps : List Str} {sp : Sp} (F : FnOk X.prog X.w X.K X.mg X.base CX0 n f fd ps sp) (hs : PySem.W.findIn X.K (.ref C) "__len__" = some (some (.ref f))) (hf : PySem.W.isFn X.K (.ref f) = true) (hb : Binds X.K fd ps []) (hr : Room (n + 1) X.A) :
    CallR X (.builtin "len") (rLenI C sp) := by
  rintro pins s σ H xs us Q I rel ⟨a, dx, fs, rfl, ha, hsp⟩
  obtain ⟨u, rfl, ru⟩ := vals1 rel
  obtain rfl : u = .ref a := ru
  obtain ⟨mA, J, _⟩ := ins_get I.hok ha
  obtain ⟨od, J, _⟩ := J.look
  obtain ⟨m, fr⟩ := I.fr
  have sb : Sub X (n + 1) X.A := ⟨hr, rfl⟩
  refine PySem.W.len_K fr I.ok.mod.kin J hs hf (run_own F hb sb.in1 I rel hsp fun z w H' s' J' rz ⟨k, ez, k0, k1, q⟩ => ?_)
  subst ez
  obtain ⟨t, rfl⟩ := rz
  exact ⟨⟨k0, by omega⟩, ⟨.int k, H', J'.tok _, ⟨_, rfl⟩, q⟩⟩
end Lk
set_option Elab.async false
set_option linter.all false
set_option maxRecDepth 100000
set_option maxHeartbeats 4000000
/-! Part N: in a tuple of data; a list extended by a tuple. -/
namespace Lk
open PySem PySem.Spec PyProof.Rows L2
/-- x in y, x not in y: y a tuple of data of any depth -/
def rInDT (K : PySem.W.Frag) : R2 := fun x y H Q => ∃ d ds, Dp K H x d ∧ Dp K H y (.tuple ds) ∧ SeqAt.shaped d = true ∧ SeqAt.shaped (.tuple ds) = true ∧ Q (.bl (ds.any fun z => PyData.eqv z d)) H
def rNotInDT (K : PySem.W.Frag) : R2 := fun x y H Q => ∃ d ds, Dp K H x d ∧ Dp K H y (.tuple ds) ∧ SeqAt.shaped d = true ∧ SeqAt.shaped (.tuple ds) = true ∧ Q (.bl (!(ds.any fun z => PyData.eqv z d))) H
theorem op_inDT {X : Cx} (hu : X.A.units + 65 < cLine) : OpR X (compareOp .In) (rInDT X.K) := by
  intro pins s σ H x y v u Q I rx ry h
  obtain ⟨d, ds, hd, he, sd, se, q⟩ := h
  obtain ⟨as, r1⟩ := Dp.reads I d x v hd rx
  obtain ⟨bs, r2⟩ := Dp.reads I (.tuple ds) y u he ry
  exact SeqAt.in_tuple_reads r2 r1 (SeqAt.canLay_of_shaped se) (SeqAt.canLay_of_shaped sd) (room_in_shaped sd hu) ⟨.bl _, H, I, rfl, q⟩
theorem op_notInDT {X : Cx} (hu : X.A.units + 65 < cLine) : OpR X (compareOp .NotIn) (rNotInDT X.K) := by
  intro pins s σ H x y v u Q I rx ry h
  obtain ⟨d, ds, hd, he, sd, se, q⟩ := h
  obtain ⟨as, r1⟩ := Dp.reads I d x v hd rx
  obtain ⟨bs, r2⟩ := Dp.reads I (.tuple ds) y u he ry
  exact SeqAt.notIn_tuple_reads r2 r1 (SeqAt.canLay_of_shaped se) (SeqAt.canLay_of_shaped sd) (room_in_shaped sd hu) ⟨.bl _, H, I, rfl, q⟩
theorem room64 {k : Nat} {A : Around} (r : Room k A) : A.units + 64 < cLine := by have := r.un; omega
theorem room65 {k : Nat} {A : Around} (r : Room k A) : A.units + 65 < cLine := by have := r.un; omega
theorem extend_tup (l : Addr) (items : Array Value) (n : Nat) (b : Addr) (items2 : Array Value) (n2 : Nat) (dd : Option Addr) (sl : Array (Option Value)) (hs0 : ¬(!items.isEmpty && Builtin.List.listTooLong (items.size + items2.size)) = true) (hs1 : items.size ≤ sizeLine) (hs2 : items.size + items2.size ≤ sizeLine + 1) :
    Meets (Builtin.«list.extend» ⟨[.ref l, .ref b], []⟩) (fun _ R s => s.heap.get? l = some { cls := .type "list", dict := none, data := .seq items n, slots := #[] } ∧ s.heap.get? b = some { cls := .type "tuple", dict := dd, data := .seq items2 n2, slots := sl } ∧ R (.ok (.ret Value.none)) { s with heap := s.heap.update l (Obj.mapSeq fun x => x ++ items2), toks := s.toks }) :=
  .of_wp fun prog w A R s h => by
    obtain ⟨hp, g, d, tk, os⟩ := s; obtain ⟨hl, hb, h⟩ := h; have f1 := PySem.AutoSeq1.idx_int; have f2 := PySem.AutoSeq1.sub_tuple_tuple; have f3 := PySem.AutoSeq1.sub_list_list; have f4 := PySem.AutoSeq1.sub_tuple_list; have f5 := PySem.AutoSeq1.sub_list_tuple;
    have hz' : (items ++ items2).size ≤ sizeLine + 1 := by rw [Array.size_append]; exact hs2
    wp_walk using (wpAny_updateSeq hl rfl (hz := hs1) (_hz' := hz')), PySem.AutoSeq1.wpAny_loadPart' hl, PySem.AutoSeq1.wpAny_loadPart' hb; exact ⟨_, rfl, h⟩
/-- l.extend(t), t a tuple that was made here -/
def rExtendT : V → List V → Hp → VK → Prop := fun x vs H Q => ∃ l b xs zs, x = .ref l ∧ vs = [.ref b] ∧ H l = some (.lst xs) ∧ H b = some (.tup zs) ∧ xs.length + zs.length ≤ sizeLine ∧ Q .non (upd H l (.lst (xs ++ zs)))
theorem mt_extendT {X : Cx} : MtM X "list.extend" rExtendT := by
  intro pins s σ H x vs v us Q I rx rv h
  obtain ⟨l, b, xs, zs, rfl, rfl, hH, hB, hz, q⟩ := h
  cases rx
  obtain ⟨u, rfl, ru⟩ := rv.one
  cases ru
  obtain ⟨z, its, n, r, hl, e⟩ := I.lstM hH
  obtain ⟨_, its2, r2, ⟨cls, dd, data, sls⟩, e2, hc, m, hd⟩ := (show ObjOk X.prog X.w H s.heap b (.tup _) from I.hok b _ hB)
  simp only at hc hd
  subst hc hd
  have hsz : its.toArray.size + its2.toArray.size ≤ sizeLine := by rw [List.size_toArray, List.size_toArray, ← hl, ← r2.length]; exact hz
  have hlong : ¬ (!its.toArray.isEmpty && Builtin.List.listTooLong (its.toArray.size + its2.toArray.size)) = true := by
    rw [notLongL hsz, Bool.and_false]
    exact Bool.false_ne_true
  have hl2 := r2.length
  refine call_meets F.slot_list_extend ⟨_, e, rfl⟩ F.entry_list_extend (F.args_list_extend_2 _ _)
    (extend_tup l its.toArray n b its2.toArray m dd sls hlong (by rw [List.size_toArray]; omega) (by omega)) ⟨e, e2, ?_⟩
  refine ⟨.non, _, I.lset (its' := its ++ its2) hH e (by simp) (r.append r2) ?_, rfl, q⟩
  rw [List.length_append]
  omega
end Lk
set_option Elab.async false
set_option linter.all false
set_option maxRecDepth 100000
set_option maxHeartbeats 4000000
/-! Part G: comprehensions whose items are made anew, each told by a relation. -/
namespace Lk
open PySem PySem.Spec PyProof.Rows L2
/-- what may be written in its place: lists, tables of code objects -/
inductive Mv : HO → Prop
  | lst (xs : List V) : Mv (.lst xs)
  | tbl (ps : Array Value) : Mv (.tbl ps)
/-- all but lists and tables stand -/
def Keep (H H' : Hp) : Prop := ∀ b o, H b = some o → (∀ _ : Unit, ¬ Mv o) → H' b = some o
theorem Keep.of {H H' : Hp} (s : Same H H') : Keep H H' := fun b o e _ => s b o e
theorem Keep.trans {H H1 H2 : Hp} (x : Keep H H1) (y : Keep H1 H2) : Keep H H2 := fun b o e n => y b o (x b o e n) n
theorem Keep.upd {H : Hp} {D : Addr} {xs : List V} {o : HO} (h : H D = some (.lst xs)) : Keep H (upd H D o) := fun b u e n => by
  have : b ≠ D := fun z => by
    rw [z, h] at e
    cases e
    exact n () (.lst _)
  rw [upd_ne this]
  exact e
theorem tYes_if (σ2 : L2.St) (H2 : Hp) (A B : Hp → Prop) : (tYes σ2 H2 fun c H3 => if c = true then A H3 else B H3) = A H2 := by
  show (if true = true then A H2 else B H2) = A H2
  rw [if_pos rfl]
theorem Paired.add {α β : Type} {R : α → β → Prop} : ∀ {xs : List α} {ys : List β} {x : α} {y : β}, Paired R xs ys → R x y → Paired R (xs ++ [x]) (ys ++ [y])
  | _, _, _, _, .nil, h => .cons h .nil
  | _, _, _, _, .cons a t, h => .cons a (Paired.add t h)
theorem lc_relQ {α β : Type} {J : It} {G : Hp → Prop} {vs0 : List V} (w : Walk J vs0.length G (YAt vs0)) {g : TG} {te : TE} {vs : List Nat} {σ : L2.St} {H1 : Hp} {D : Addr} {Qd : Hp → Prop} (nD : H1 D = none)
    (xs : List α) (e : α → V) (f : α → β) (Rel : Hp → V → β → Prop) (mono : ∀ H H' v b, Keep H H' → Rel H v b → Rel H' v b) (hv : vs0 = xs.map e) (few : xs.length ≤ 100000) (hG : ∀ H, Same H1 H → G H)
    (hs : ∀ (i : Nat) b H (R : VK), xs[i]? = some b → Same H1 H → (∀ H4 y, Same H H4 → Rel H4 y (f b) → R y H4) → g (e b) (wipe σ vs) H fun σ2 H2 => wipe σ2 vs = wipe σ vs ∧ te σ2 H2 R)
    (hd : ∀ H ts, Same H1 H → H D = some (.lst ts) → Paired (Rel H) ts (xs.map f) → Qd H) :
    ∃ W : Nat → Nat → Hp → Prop, (∃ m, W 0 m (upd H1 D (.lst []))) ∧ ∀ i m H, W i m H → (J.stop i H ∧ Qd H) ∨ (J.go i H ∧ ∃ Nx : Hp → Prop, (∀ H', Nx H' → ∃ m', m' < m ∧ W (i + 1) m' H') ∧ ∀ x H', J.yld i H x H' → g x (wipe σ vs) H' fun σ2 H2 => wipe σ2 vs = wipe σ vs ∧ tYes σ2 H2 fun b H3 =>
        if b = true then te σ2 H3 fun y H4 => ∃ acc, H4 D = some (.lst acc) ∧ acc.length < sizeLine ∧ Nx (upd H4 D (.lst (acc ++ [y]))) else Nx H3) := by
  have hl : vs0.length = xs.length := by rw [hv, List.length_map]
  refine lc_it w (fun j H => ∃ ts, H D = some (.lst ts) ∧ Paired (Rel H) ts ((xs.take j).map f) ∧ ts.length = j ∧ Same H1 H) ⟨[], upd_same, .nil, rfl, same_new nD⟩ (fun i H _ p => hG H (by obtain ⟨_, _, _, _, s⟩ := p; exact s)) ?_ ?_
  · rintro i x H H' hi ⟨ts, eD, pr, tl, s⟩ ⟨rfl, hx⟩
    obtain ⟨b, hb⟩ : ∃ b, xs[i]? = some b := ⟨_, List.getElem?_eq_getElem (by omega)⟩
    have ex : x = e b := by
      rw [hv, List.getElem?_map, hb] at hx
      exact (Option.some.inj hx).symm
    subst ex
    have z := hs i b _ (fun y H4 => ∃ acc, H4 D = some (.lst acc) ∧ acc.length < sizeLine ∧ ∃ ts, upd H4 D (.lst (acc ++ [y])) D = some (.lst ts) ∧ Paired (Rel (upd H4 D (.lst (acc ++ [y])))) ts ((xs.take (i + 1)).map f) ∧ ts.length = i + 1 ∧ Same H1 (upd H4 D (.lst (acc ++ [y])))) hb s fun H4 y s4 ry => by
      refine ⟨ts, s4 _ _ eD, by rw [sizeLine_eq]; omega, ts ++ [y], upd_same, ?_, by rw [List.length_append, tl]; rfl, fun c o ec => ?_⟩
      · have kp : Keep H4 (upd H4 D (.lst (ts ++ [y]))) := .upd (s4 _ _ eD)
        rw [List.take_add_one, hb, Option.toList_some, List.map_append]
        exact Paired.add (Paired.mapP pr fun v c r => mono _ _ _ _ ((Keep.of s4).trans kp) r) (mono _ _ _ _ kp ry)
      · rw [upd_ne (ne_of_none ec nD)]
        exact s4 _ _ (s _ _ ec)
    exact z
  · rintro H ⟨ts, eD, pr, tl, s⟩
    rw [hl, List.take_length] at pr
    exact hd H ts s eD pr
theorem lc_rel {α β : Type} {J : It} {G : Hp → Prop} {vs0 : List V} (w : Walk J vs0.length G (YAt vs0)) {g : TG} {te : TE} {vs : List Nat} {σ : L2.St} {H1 : Hp} {Q : VK}
    (xs : List α) (e : α → V) (f : α → β) (Rel : Hp → V → β → Prop) (mono : ∀ H H' v b, Keep H H' → Rel H v b → Rel H' v b) (hv : vs0 = xs.map e) (few : xs.length ≤ 100000) (hG : ∀ H, Same H1 H → G H)
    (hs : ∀ (i : Nat) b H (R : VK), xs[i]? = some b → Same H1 H → (∀ H4 y, Same H H4 → Rel H4 y (f b) → R y H4) → g (e b) (wipe σ vs) H fun σ2 H2 => wipe σ2 vs = wipe σ vs ∧ te σ2 H2 R)
    (hd : ∀ D H ts, H1 D = none → Same H1 H → H D = some (.lst ts) → Paired (Rel H) ts (xs.map f) → Q (.ref D) H) : LcR J g tYes te vs σ H1 Q := fun D nD =>
  lc_relQ w nD xs e f Rel mono hv few hG hs fun H ts s eD pr => hd D H ts nD s eD pr
end Lk
namespace Lk
open PySem PySem.Spec PyProof.Rows L2
/-- a walk whose turns are told of the heap alone: the clauses of a comprehension, outer or inner -/
theorem in_it {J : It} {n : Nat} {G : Hp → Prop} {Y : Nat → Hp → V → Hp → Prop} (w : Walk J n G Y) {C : (Hp → Prop) → V → Hp → Prop} {H0 : Hp} {E : Hp → Prop} (Pv : Nat → Hp → Prop) (h0 : Pv 0 H0) (hG : ∀ i H, i ≤ n → Pv i H → G H)
    (hs : ∀ i x H H', i < n → Pv i H → Y i H x H' → C (Pv (i + 1)) x H') (hd : ∀ H, Pv n H → E H) :
    ∃ W : Nat → Nat → Hp → Prop, (∃ m, W 0 m H0) ∧ ∀ j k H, W j k H → (J.stop j H ∧ E H) ∨ (J.go j H ∧ ∃ N : Hp → Prop, (∀ H', N H' → ∃ k', k' < k ∧ W (j + 1) k' H') ∧ ∀ x H', J.yld j H x H' → C N x H') := by
  refine ⟨fun i m H => m = n - i ∧ i ≤ n ∧ Pv i H, ⟨n, by simp, Nat.zero_le _, h0⟩, ?_⟩
  rintro i m H ⟨rfl, hi, p⟩
  have q := hG i H hi p
  by_cases lt : i < n
  · exact .inr ⟨w.goes i H lt q, Pv (i + 1), fun H' p' => ⟨n - (i + 1), by omega, rfl, lt, p'⟩, fun x H' y => hs i x H H' lt p (w.yields i H x H' lt q y)⟩
  · obtain rfl : i = n := by omega
    exact .inl ⟨w.stops H q, hd H p⟩
end Lk
namespace Lk
open PySem PySem.Spec PyProof.Rows L2
def KeepB (D : Addr) (H H' : Hp) : Prop := ∀ b o, b ≠ D → H b = some o → H' b = some o
/-- as lc_rel, for items that may be lists, but not the new list itself; Qd by the heap alone -/
theorem lc_relD {α β : Type} {J : It} {G : Hp → Prop} {vs0 : List V} (w : Walk J vs0.length G (YAt vs0)) {g : TG} {te : TE} {vs : List Nat} {σ : L2.St} {H1 : Hp} {D : Addr} {Qd : Hp → Prop}
    (xs : List α) (e : α → V) (f : α → β) (Rel : Hp → V → β → Prop) (nD : H1 D = none) (mono : ∀ H H' v b, KeepB D H H' → Rel H v b → Rel H' v b) (hv : vs0 = xs.map e) (few : xs.length ≤ 100000) (hG : ∀ H, Same H1 H → G H)
    (hs : ∀ (i : Nat) b H (R : VK), xs[i]? = some b → Same H1 H → H D ≠ none → (∀ H4 y, Same H H4 → Rel H4 y (f b) → R y H4) → g (e b) (wipe σ vs) H fun σ2 H2 => wipe σ2 vs = wipe σ vs ∧ te σ2 H2 R)
    (hd : ∀ H ts, Same H1 H → H D = some (.lst ts) → Paired (Rel H) ts (xs.map f) → Qd H) :
    ∃ W : Nat → Nat → Hp → Prop, (∃ m, W 0 m (upd H1 D (.lst []))) ∧ ∀ i m H, W i m H → (J.stop i H ∧ Qd H) ∨ (J.go i H ∧ ∃ Nx : Hp → Prop, (∀ H', Nx H' → ∃ m', m' < m ∧ W (i + 1) m' H') ∧ ∀ x H', J.yld i H x H' → g x (wipe σ vs) H' fun σ2 H2 => wipe σ2 vs = wipe σ vs ∧ tYes σ2 H2 fun b H3 =>
        if b = true then te σ2 H3 fun y H4 => ∃ acc, H4 D = some (.lst acc) ∧ acc.length < sizeLine ∧ Nx (upd H4 D (.lst (acc ++ [y]))) else Nx H3) := by
  have hl : vs0.length = xs.length := by rw [hv, List.length_map]
  refine lc_it w (fun j H => ∃ ts, H D = some (.lst ts) ∧ Paired (Rel H) ts ((xs.take j).map f) ∧ ts.length = j ∧ Same H1 H) ⟨[], upd_same, .nil, rfl, same_new nD⟩ (fun i H _ p => hG H (by obtain ⟨_, _, _, _, s⟩ := p; exact s)) ?_ ?_
  · rintro i x H H' hi ⟨ts, eD, pr, tl, s⟩ ⟨rfl, hx⟩
    obtain ⟨b, hb⟩ : ∃ b, xs[i]? = some b := ⟨_, List.getElem?_eq_getElem (by omega)⟩
    have ex : x = e b := by
      rw [hv, List.getElem?_map, hb] at hx
      exact (Option.some.inj hx).symm
    subst ex
    have z := hs i b _ (fun y H4 => ∃ acc, H4 D = some (.lst acc) ∧ acc.length < sizeLine ∧ ∃ ts, upd H4 D (.lst (acc ++ [y])) D = some (.lst ts) ∧ Paired (Rel (upd H4 D (.lst (acc ++ [y])))) ts ((xs.take (i + 1)).map f) ∧ ts.length = i + 1 ∧ Same H1 (upd H4 D (.lst (acc ++ [y])))) hb s (by rw [eD]; simp) fun H4 y s4 ry => by
      refine ⟨ts, s4 _ _ eD, by rw [sizeLine_eq]; omega, ts ++ [y], upd_same, ?_, by rw [List.length_append, tl]; rfl, fun c o ec => ?_⟩
      · have kp : KeepB D H4 (upd H4 D (.lst (ts ++ [y]))) := fun c o nc ec => by rw [upd_ne nc]; exact ec
        have k4 : KeepB D H' H4 := fun c o _ ec => s4 _ _ ec
        rw [List.take_add_one, hb, Option.toList_some, List.map_append]
        exact Paired.add (Paired.mapP pr fun v c r => mono _ _ _ _ kp (mono _ _ _ _ k4 r)) (mono _ _ _ _ kp ry)
      · rw [upd_ne (ne_of_none ec nD)]
        exact s4 _ _ (s _ _ ec)
    exact z
  · rintro H ⟨ts, eD, pr, tl, s⟩
    rw [hl, List.take_length] at pr
    exact hd H ts s eD pr
end Lk
set_option Elab.async false
set_option linter.all false
set_option maxRecDepth 100000
set_option maxHeartbeats 4000000
/-! Part R: data that is small enough to be compared and shown. -/
namespace Lk
open PySem PySem.Spec PyProof.Rows L2
/-- weight at most n, depth at most k, texts and ints that can be shown -/
structure Nice (n k : Nat) (d : PyData) : Prop where
  lay : d.canLay0 = true
  dep : d.depth ≤ k
  wt : d.weight ≤ n
  sh : d.intsShort 13 = true
  sw : d.showable = true
theorem Nice.mono {n k m j : Nat} {d : PyData} (h : Nice n k d) (hn : n ≤ m) (hk : k ≤ j) : Nice m j d := ⟨h.lay, Nat.le_trans h.dep hk, Nat.le_trans h.wt hn, h.sh, h.sw⟩
theorem Nice.str {x : Str} {n : Nat} (h : PyData.strOk x = true) (hl : x.length ≤ n) : Nice n 0 (.str x) :=
  ⟨by simp [PyData.canLay0, h], by simp [PyData.depth], by simpa [PyData.weight, Str.length] using hl, by simp [PyData.intsShort], by simp [PyData.showable]⟩
theorem nice_all {c k : Nat} : ∀ {ds : List PyData}, (∀ d ∈ ds, Nice c k d) → PyData.canLayAll0 ds = true ∧ PyData.depthAll ds ≤ k ∧ PyData.weightAll ds ≤ ds.length * (c + 1) ∧ PyData.intsShortAll 13 ds = true ∧ PyData.showableAll ds = true
  | [], _ => ⟨by simp [PyData.canLayAll0], by simp [PyData.depthAll], by simp [PyData.weightAll], by simp [PyData.intsShortAll], by simp [PyData.showableAll]⟩
  | d :: ds, h => by
    obtain ⟨a1, a2, a3, a4, a5⟩ := nice_all fun e he => h e (List.mem_cons_of_mem _ he)
    have hd := h d List.mem_cons_self
    refine ⟨by simp [PyData.canLayAll0, hd.lay, a1], ?_, ?_, by simp [PyData.intsShortAll, hd.sh, a4], by simp [PyData.showableAll, hd.sw, a5]⟩
    · have := hd.dep
      simp only [PyData.depthAll]
      omega
    · have := hd.wt
      have e : (d :: ds).length * (c + 1) = ds.length * (c + 1) + (c + 1) := by rw [List.length_cons, Nat.succ_mul]
      simp only [PyData.weightAll]
      omega
theorem Nice.tup {c k m : Nat} {ds : List PyData} (h : ∀ d ∈ ds, Nice c k d) (hl : ds.length ≤ m) : Nice (m * (c + 1)) (k + 1) (.tuple ds) := by
  obtain ⟨a1, a2, a3, a4, a5⟩ := nice_all h
  refine ⟨by simp [PyData.canLay0, a1], ?_, ?_, by simp [PyData.intsShort, a4], by simp [PyData.showable, a5]⟩
  · simp only [PyData.depth]
    omega
  · simp only [PyData.weight]
    exact Nat.le_trans a3 (Nat.mul_le_mul_right _ hl)
theorem Nice.lst {c k m : Nat} {ds : List PyData} (h : ∀ d ∈ ds, Nice c k d) (hl : ds.length ≤ m) : Nice (m * (c + 1)) (k + 1) (.list ds) := by
  obtain ⟨a1, a2, a3, a4, a5⟩ := nice_all h
  refine ⟨by simp [PyData.canLay0, a1], ?_, ?_, by simp [PyData.intsShort, a4], by simp [PyData.showable, a5]⟩
  · simp only [PyData.depth]
    omega
  · simp only [PyData.weight]
    exact Nat.le_trans a3 (Nat.mul_le_mul_right _ hl)
theorem Nice.shaped {n k : Nat} {d : PyData} (h : Nice n k d) (hk : k ≤ 64) : SeqAt.shaped d = true := by
  show (d.canLay0 && decide (d.depth ≤ 64)) = true
  have := h.dep
  rw [Bool.and_eq_true]
  exact ⟨h.lay, decide_eq_true (by omega)⟩
theorem Nice.fits {n k : Nat} {d : PyData} (h : Nice n k d) (hn : n ≤ 1048576) (hk : k ≤ 64) : d.shown.length ≤ sizeLine := by
  have l0 : PyData.layable0 d = true := by
    have h1 := h.dep
    have h2 := h.wt
    show (d.canLay0 && decide (d.depth ≤ 64) && decide (d.weight ≤ 2 ^ 20)) = true
    rw [Bool.and_eq_true, Bool.and_eq_true]
    exact ⟨⟨h.lay, decide_eq_true (by omega)⟩, decide_eq_true (by omega)⟩
  have := shown_le13 l0 h.sh
  rw [sizeLine_eq]
  omega
theorem Nice.eqv {n k : Nat} {d : PyData} (h : Nice n k d) : PyData.eqv d d = true := SeqAt.eqv_refl _ h.lay
/-- small ints -/
theorem nice_ints : ∀ i : Nat, i < 100 → ((PyData.int (i : Int)).intsShort 13 && ((PyData.int (i : Int)).showable && decide ((PyData.int (i : Int)).weight ≤ 8))) = true := by decide +kernel
theorem Nice.nat {i : Nat} (h : i < 100) : Nice 8 0 (.int (i : Int)) := by
  have := nice_ints i h
  rw [Bool.and_eq_true, Bool.and_eq_true] at this
  exact ⟨by simp [PyData.canLay0], by simp [PyData.depth], of_decide_eq_true this.2.2, this.1, this.2.1⟩
/-- the texts of a tuple -/
def strsD (zs : List Str) : List PyData := zs.map PyData.str
theorem dp_strs {K : PySem.W.Frag} {H : Hp} : ∀ zs : List Str, DpAll K H (zs.map V.str) (strsD zs)
  | [] => .nil
  | z :: zs => .cons (.str z) (dp_strs zs)
theorem dw_strs {H : Hp} : ∀ zs : List Str, DWs H (zs.map V.str) (strsD zs)
  | [] => .nil
  | z :: zs => .cons (.str z) (dw_strs zs)
theorem nice_strs {zs : List Str} {n m : Nat} (h : ∀ z ∈ zs, PyData.strOk z = true ∧ z.length ≤ n) (hl : zs.length ≤ m) : Nice (m * (n + 1)) 1 (.tuple (strsD zs)) := by
  refine Nice.tup (fun d hd => ?_) (by unfold strsD; rw [List.length_map]; exact hl)
  obtain ⟨z, hz, rfl⟩ := List.mem_map.mp hd
  exact .str (h z hz).1 (h z hz).2
/-- all but lists stand, where the draws' list alone was written -/
theorem Keep.ext {a : Addr} {N : Nat} {H H' : Hp} (hp : PotAt a N H) (x : ExtP a H H') : Keep H H' := fun b o e n => x b o (fun z => by
  obtain ⟨_, _, _, h, _⟩ := hp
  rw [z, h] at e
  cases e
  exact n () (.lst _)) e
theorem TupX.keep {H H' : Hp} {a : Addr} {xs : List V} (h : TupX H a xs) (k : Keep H H') : TupX H' a xs := by
  obtain ⟨ob, e, r⟩ := h
  exact ⟨ob, k _ _ e (fun xs z => by cases z), r⟩
theorem SqT.keep {K : PySem.W.Frag} {H H' : Hp} {a : Addr} {xs : List V} (h : SqT K H a xs) (k : Keep H H') : SqT K H' a xs := by
  rcases h with (h | ⟨o, h⟩) | h
  · exact .inl (.inl (k _ _ h fun xs z => by cases z))
  · exact .inl (.inr ⟨o, k _ _ h fun xs z => by cases z⟩)
  · exact .inr h
end Lk
set_option Elab.async false
set_option linter.all false
set_option maxRecDepth 100000
set_option maxHeartbeats 4000000
set_option pp.maxSteps 1200
set_option pp.deepTerms false
namespace K6
open PySem PySem.Spec PyProof.Rows L2 Lk
section
variable {P : Program} {w : World} {K : PySem.W.Frag} {mg : Str → Option Value} {base : Heap} {f : Addr} {fd : FuncData}
abbrev KP := Str × List (List Str)
structure Lore where
  parts : List Str
  kps : List KP
/-- tuples of texts, each at its own address -/
def Pieces (H : Hp) : List V → List (List Str) → Prop := Paired fun v p => ∃ t, v = V.ref t ∧ H t = some (.tup (p.map V.str))
def RowR (H : Hp) (v : V) (q : List (List Str)) : Prop := ∃ t ts, v = V.ref t ∧ H t = some (.tup ts) ∧ Pieces H ts q
def Lore3 (H : Hp) (lo : Addr) (L : Lore) : Prop := ∃ pa nm ps ts, H lo = some (.dK [(.inr "parts", .ref pa), (.inr "names", .ref nm), (.inr "pieces", .ref ps)]) ∧ H pa = some (.tup (L.parts.map V.str)) ∧ TupX H nm ((L.kps.map (·.1)).map V.str) ∧ H ps = some (.tup ts) ∧ Paired (fun v (k : KP) => RowR H v k.2) ts L.kps
/-- a dict that begins so -/
def D3 (H : Hp) (lo pa nm ps : Addr) : Prop := ∃ rest, H lo = some (.dK ((.inr "parts", .ref pa) :: (.inr "names", .ref nm) :: (.inr "pieces", .ref ps) :: rest))
theorem D3.keep {H H' : Hp} {lo pa nm ps : Addr} (h : D3 H lo pa nm ps) (k : Keep H H') : D3 H' lo pa nm ps := let ⟨r, e⟩ := h; ⟨r, k _ _ e fun _ z => by cases z⟩
theorem D3.same {H H' : Hp} {lo pa nm ps : Addr} (h : D3 H lo pa nm ps) (s : Same H H') : D3 H' lo pa nm ps := h.keep (.of s)
def LoreAt (H : Hp) (lo : Addr) (L : Lore) : Prop := ∃ pa nm ps ts, D3 H lo pa nm ps ∧ H pa = some (.tup (L.parts.map V.str)) ∧ TupX H nm ((L.kps.map (·.1)).map V.str) ∧ H ps = some (.tup ts) ∧ Paired (fun v (k : KP) => RowR H v k.2) ts L.kps
theorem Lore3.at_ {H : Hp} {lo : Addr} {L : Lore} (h : Lore3 H lo L) : LoreAt H lo L := let ⟨pa, nm, ps, ts, e, r⟩ := h; ⟨pa, nm, ps, ts, ⟨[], e⟩, r⟩
/-- what is in H and no list stands in H', too -/
def Tups (H H' : Hp) : Prop := ∀ b xs, H b = some (.tup xs) → H' b = some (.tup xs)
theorem Tups.of {H H' : Hp} (s : Same H H') : Tups H H' := fun b xs e => s b _ e
theorem Tups.trans {H H1 H2 : Hp} (x : Tups H H1) (y : Tups H1 H2) : Tups H H2 := fun b xs e => y b xs (x b xs e)
theorem Tups.upd {H : Hp} {b : Addr} {xs : List V} {o : HO} (h : H b = some (.lst xs)) : Tups H (upd H b o) := fun c ys e => by
  rw [upd_ne (fun z => by rw [z, h] at e; cases e)]
  exact e
theorem Pieces.tups {H H' : Hp} {vs : List V} {ps : List (List Str)} (h : Pieces H vs ps) (k : Tups H H') : Pieces H' vs ps := Paired.mapP h fun _ _ ⟨t, e, h⟩ => ⟨t, e, k _ _ h⟩
theorem paired_append {α β : Type} {R : α → β → Prop} : ∀ {xs : List α} {ys : List β} {xs' : List α} {ys' : List β}, Paired R xs ys → Paired R xs' ys' → Paired R (xs ++ xs') (ys ++ ys')
  | _, _, _, _, .nil, h => h
  | _, _, _, _, .cons a t, h => .cons a (paired_append t h)
theorem paired_len {α β : Type} {R : α → β → Prop} : ∀ {xs : List α} {ys : List β}, Paired R xs ys → xs.length = ys.length
  | _, _, .nil => rfl
  | _, _, .cons _ t => by rw [List.length_cons, List.length_cons, paired_len t]
theorem Pieces.keep {H H' : Hp} {vs : List V} {ps : List (List Str)} (h : Pieces H vs ps) (k : Keep H H') : Pieces H' vs ps := Paired.mapP h fun _ _ ⟨t, e, h⟩ => ⟨t, e, k _ _ h fun _ z => by cases z⟩
theorem RowR.keep {H H' : Hp} {v : V} {q : List (List Str)} (h : RowR H v q) (k : Keep H H') : RowR H' v q := by
  obtain ⟨t, ts, e, h1, h2⟩ := h
  exact ⟨t, ts, e, k _ _ h1 (fun _ z => by cases z), h2.keep k⟩
theorem LoreAt.keep {lo : Addr} {H H' : Hp} {L : Lore} (h : LoreAt H lo L) (k : Keep H H') : LoreAt H' lo L := by
  obtain ⟨pa, nm, ps, ts, h1, h2, h3, h4, h5⟩ := h
  exact ⟨pa, nm, ps, ts, h1.keep k, k _ _ h2 (fun _ z => by cases z), h3.keep k, k _ _ h4 (fun _ z => by cases z), Paired.mapP h5 fun _ _ r => r.keep k⟩
theorem LoreAt.same {lo : Addr} {H H' : Hp} {L : Lore} (h : LoreAt H lo L) (s : Same H H') : LoreAt H' lo L := h.keep (.of s)
end
end K6
set_option Elab.async false
set_option linter.all false
set_option maxRecDepth 100000
set_option maxHeartbeats 4000000
set_option pp.maxSteps 1200
set_option pp.deepTerms false
namespace K6
open PySem PySem.Spec PyProof.Rows L2 Lk
section
variable {P : Program} {w : World} {K : PySem.W.Frag} {mg : Str → Option Value} {base : Heap} {f : Addr} {fd : FuncData}
def pieceW (p : List Str) : Str := Txt.join "+" p
def lineP (L : Lore) : Str := Txt.join " " ("parts" :: L.parts)
def wordsK (k : KP) : List Str := "keeper" :: k.1 :: k.2.map pieceW
def lineK (k : KP) : Str := Txt.join " " (wordsK k)
def rowsL (L : Lore) : List Str := lineP L :: L.kps.map lineK
def textL (L : Lore) : Str := Txt.join "\n" (rowsL L)
theorem PieceOk.len {ps p : List Str} (h : PieceOk ps p) : p.length ≤ ps.length := by
  have := List.length_filter_le (fun x => decide (x ∈ p)) ps
  rw [← h.2] at this
  exact this
theorem paired_zip {α β : Type} {R : α → β → Prop} : ∀ {xs : List α} {ys : List β}, Paired R xs ys → ∃ zs : List (α × β), zs.map (·.1) = xs ∧ zs.map (·.2) = ys ∧ ∀ z ∈ zs, R z.1 z.2
  | _, _, .nil => ⟨[], rfl, rfl, fun _ h => by simp at h⟩
  | _, _, .cons (a := a) (b := b) h t => by
    obtain ⟨zs, e1, e2, e3⟩ := paired_zip t
    refine ⟨(a, b) :: zs, by rw [List.map_cons, e1], by rw [List.map_cons, e2], fun z hz => ?_⟩
    rcases List.mem_cons.mp hz with rfl | hz
    · exact h
    · exact e3 z hz
end
end K6
set_option Elab.async false
set_option linter.all false
set_option maxRecDepth 100000
set_option maxHeartbeats 4000000
/-! Part S: set(x) of unlike texts, its length. -/
namespace LkS
open PySem PySem.Spec PyProof.Rows
section
variable {p : Program} {w : World} {A : Around} {R : Result → Shared → Prop} {I : Addr} {fp wr : List Addr} {G : Array GenState → Array GenState → Prop} {n : Nat} {P : Nat → Value → Prop} {St : Nat → Shared → Prop}
theorem any_take_not {zs : List Str} (nd : zs.Nodup) {i : Nat} (hi : i < zs.length) : (zs.take i).any (· == zs.getD i Str.empty) = false := by
  have e : zs.getD i Str.empty = zs[i] := by simp [List.getD_eq_getElem?_getD, hi]
  rw [e, List.any_eq_false]
  intro z hz q
  have q2 : z = zs[i] := by simpa using q
  obtain ⟨j, hj, ej⟩ := List.mem_iff_getElem.mp hz
  rw [List.getElem_take] at ej
  have hj2 : j < i := by rw [List.length_take] at hj; omega
  exact (List.pairwise_iff_getElem.mp nd) j i (by omega) hi hj2 (ej.trans q2)
theorem strs_put (W : WalksS p w A.in1 I fp wr G n P St) (S : Addr) (out : S ∉ fp) (zs : List Str) (sz : zs.length = n) (nd : zs.Nodup) (few : n + 1 < scanBound) (val : ∀ i v, P i v → ∃ t, v = .str (zs.getD i Str.empty) t) :
    ∀ (d i : Nat) (s : Shared), n - i = d → i ≤ n → St i s → s.heap.SetOf (strKind p w) S (fun y => (zs.take i).any (· == y)) i →
      (∀ s2, Moved (S :: wr) G s s2 → s2.heap.SetOf (strKind p w) S (fun y => zs.any (· == y)) n → R (.ok (.ret .none)) s2) → codeAny (model p w) A (.builtin "set.update.loop" ⟨[.ref S, .ref I], []⟩) R s := by
  have out2 : S ∉ wr := fun q => out (W.sub _ q)
  have wide : ∀ b ∈ wr, b ∈ S :: wr := fun b q => List.mem_cons_of_mem _ q
  intro d
  induction d with
  | zero =>
    intro i s ed hi st has fin
    obtain rfl : i = n := by omega
    refine codeAny_builtin F.entry_set_update_loop ?_; rw [Around.under_plainId F.plain_set_update_loop _]
    show wpAny _ A.in1 (pyNext (.ref I) >>= _) _ _ s; refine wpAny_bind (W.done s _ _ st fun s2 mv => ?_)
    show wpAny _ A.in1 (ret Value.none) _ _ s2
    have e : zs.take i = zs := List.take_of_length_le (by omega)
    rw [e] at has
    obtain ⟨o, es, ep, t, ho, more⟩ := has
    exact wpAny_pure (fin s2 (mv.mono wide) ⟨o, es, ep, t, mv.heap S _ out2 ho, more⟩)
  | succ d ih =>
    intro i s ed hi st has fin
    have lt : i < n := by omega
    refine codeAny_builtin F.entry_set_update_loop ?_; rw [Around.under_plainId F.plain_set_update_loop _]
    show wpAny _ A.in1 (pyNext (.ref I) >>= _) _ _ s; refine wpAny_bind (W.item i s _ _ lt st fun v s2 pv st2 mv => ?_)
    obtain ⟨t, rfl⟩ := val i v pv
    have has2 : s2.heap.SetOf (strKind p w) S (fun y => (zs.take i).any (· == y)) i := by
      obtain ⟨o, es, ep, tb, ho, more⟩ := has
      exact ⟨o, es, ep, tb, mv.heap S _ out2 ho, more⟩
    show wpAny _ A.in1 (holding [Value.str (zs.getD i Str.empty) t] (setAdd S (.str (zs.getD i Str.empty) t)) >>= _) _ _ s2
    refine wpAny_bind (wpAny_holding ?_); unfold setAdd; refine wpAny_holding (wpAny_bind ((strKind p w).pyHash (k := zs.getD i Str.empty) (strKind_is _ _ _ _) ?_))
    refine wpAny_setAddHashed_of (knd := strKind p w) (s := { s2 with toks := s2.toks + 1 }) (strKind_is _ _ _ _) rfl has2 (by omega) fun g same has3 => ?_
    have has4 : g.SetOf (strKind p w) S (fun y => (zs.take (i + 1)).any (· == y)) (i + 1) := by
      have no := any_take_not nd (i := i) (by omega)
      have lt2 : i < zs.length := by omega
      refine SetOf_congr has3 (fun y => ?_) (by rw [no]; rfl)
      rw [List.take_add_one, List.any_append, List.getD_eq_getElem?_getD, List.getElem?_eq_getElem lt2]
      simp only [Option.getD_some, Option.toList_some, List.any_cons, List.any_nil, Bool.or_false]
      congr 1
      by_cases q : y = zs[i]
      · simp [q]
      · have q2 : ¬ zs[i] = y := fun z => q z.symm
        simp [q, q2]
    refine wpAny_pure ⟨plainId_quiet F.plain_set_update_loop _, ih (i + 1) _ (by omega) lt (W.frame _ s2 _ _ st2 (Nat.le_succ _) fun b hb o e => ?_) has4 fun s3 mv3 has5 => ?_⟩
    · rw [same.2 b (fun q : b = S => out (by rw [← q]; exact hb))] <;> exact e
    · refine fin s3 (Moved.trans W.gtrans ((mv.mono wide).then_heap (Nat.le_succ _) fun b o nb e => ?_) mv3) has5
      rw [same.2 b (fun q : b = S => nb (by rw [q]; exact List.mem_cons_self))] <;> exact e
end
abbrev emptyS (led : Bool) : Obj := { cls := .type "set", dict := none, data := .set #[] 0 (.fresh 0 0 led) }
section
variable {p : Program} {w : World} {A : Around} {E : Value → Shared → Prop} {s : Shared}

set_option maxHeartbeats 8000000 in
/-- set(x), x a list of unlike texts -/
theorem set_of_list {l : Addr} {its : Array Value} {zs : List Str} {Q : Value → Shared → Prop} (calm : A.handled = none) (at_ : s.heap.IsList l its) (are : StrsAre its.toList zs) (nd : zs.Nodup) (few : zs.length + 1 < scanBound)
    (k : ∀ (g : Heap) (tk : Nat), g.SetOf (strKind p w) s.heap.objs.size (fun y => zs.any (· == y)) its.size → (∀ b o, s.heap.get? b = some o → g.get? b = some o) → Q (.ref s.heap.objs.size) { s with heap := g, toks := tk }) : wpAny (model p w) A (call (.type "set") [.ref l]) Q E s := by
  obtain ⟨c0, c1, eMro⟩ := F.called_set.mro; have eMade := F.called_set.made; have eSub := F.called_set.sub
  refine wpAny_call (codeAny_of_tree ?_); show wpAny _ _ (callAny (.type "set") _) _ _ _
  refine wpAny_pure ⟨Code.quiet_builtin _ (by decide +kernel), codeAny_builtin F.entry_type_call ?_⟩; rw [Around.under_plain (weight_type_call_type "set" [.ref l] []) rfl]
  have e1 := F.called_set.notType; have e2 := F.called_set.canCreate; have e3 := F.typeCall_set_1 (.ref l)
  repeat (any_goals (first | assumption | wp_step))
  refine codeAny_mono (code_set_new_1 (.ref l) (E := E) (Q₁ := fun o s₁ => ∃ led, o = .ref s.heap.objs.size ∧ s₁ = { s with heap := s.heap.push (emptyS led) }) fun led => ⟨led, rfl, rfl⟩) fun r s₁ er => ?_
  match r, er with
  | .error _, er => exact er
  | .ok .next, er => exact er.elim
  | .ok .brk, er => exact er.elim
  | .ok .cont, er => exact er.elim
  | .ok (.ret o), ⟨led, e5, e6⟩ =>
    subst e5 e6
    have eS : (s.heap.push (emptyS led)).get? s.heap.objs.size = some (emptyS led) := Heap.get?_push_size _ rfl
    have eT : Shared.TypeIs { s with heap := s.heap.push (emptyS led) } (.ref s.heap.objs.size) "set" := ⟨_, eS, rfl⟩
    have e7 := F.called_set.init.lookup; have e8 := F.called_set.init.bind (.ref s.heap.objs.size)
    repeat (any_goals (first | assumption | wp_step))
    refine codeAny_mono (codeAny_call_builtin (R := wants (fun r s₂ => r = .none ∧ ∃ g tk, s₂ = { s with heap := g, toks := tk } ∧ g.SetOf (strKind p w) s.heap.objs.size (fun y => zs.any (· == y)) its.size ∧ ∀ b o, s.heap.get? b = some o → g.get? b = some o) E) F.called_set.init.plain F.entry_set_init (check_set_init_1 eT ?_)) fun r₂ s₂ er₂ => ?_
    · obtain ⟨⟨cls, odc, odt, osl⟩, here, ecl, m, edt⟩ := at_
      simp only at ecl edt; subst ecl edt
      have here2 : (s.heap.push (emptyS led)).get? l = some { cls := .type "list", dict := odc, data := .seq its m, slots := osl } := Heap.get?_push_of_some _ here
      have f1 := F.sub_list_set; have f2 := F.sub_list_frozenset; have f3 : (Value.type "list" == Value.type "dict") = false := by decide
      have its1 : (s.heap.push (emptyS led)).IsList l its := ⟨_, here2, rfl, m, rfl⟩
      unfold Builtin.«set.__init__» noKeywords Builtin.Frozenset.updateFrom
      generalize eIter : pyIter = It
      wp_walk
      subst eIter
      refine wpAny_pyIter_list its1 (wpAny_bind (wpAny_runValue ?_))
      have lt : l < s.heap.objs.size := Heap.lt_size here
      have calm3 : A.in1.in1.in1.handled = none := by simp [calm]
      have ps : (s.heap.push (emptyS led)).objs.size = s.heap.objs.size + 1 := Heap.size_push ..
      have n1 : l ≠ (s.heap.push (emptyS led)).objs.size := by rw [ps]; exact Nat.ne_of_lt (Nat.lt_succ_of_lt lt)
      have n2 : s.heap.objs.size ∉ [(s.heap.push (emptyS led)).objs.size, l] := by simp only [List.mem_cons, List.not_mem_nil, or_false, not_or, ps]; exact ⟨Nat.ne_of_lt (Nat.lt_succ_self _), Nat.ne_of_gt lt⟩
      have sz : zs.length = its.size := by rw [← StrsAre.len_eq are, Array.length_toList]
      have eS2 : ((s.heap.push (emptyS led)).push { cls := .type "list_iterator", data := .fields #[.ref l, .int 0 0] }).get? s.heap.objs.size = some (emptyS led) := Heap.get?_push_of_some _ eS
      refine strs_put ((Walks.list calm3 _ l n1 its).toS) s.heap.objs.size n2 zs sz nd (by omega) (fun i v ev => SS.strs_at are i v (by rw [Array.getElem?_toList]; exact ev)) its.size 0 _ rfl (Nat.zero_le _) ⟨⟨_, Heap.get?_push_size _ rfl, rfl, rfl⟩, its1.push _⟩
        (SetOf_congr ((setObjOf_fresh (knd := strKind p w) led).setOf eS2 (by unfold scanBound; omega)) (fun _ => rfl) rfl) fun s3 mv S3 => ?_
      obtain ⟨g3, gs3, dr3, tk3, os3⟩ := s3
      obtain rfl : gs3 = s.gens := mv.gens; obtain rfl : dr3 = s.drawn := mv.drawn; obtain rfl : os3 = s.os := mv.os
      show wpAny _ _ _ _ _ _; refine wpAny_pure ?_
      show wpAny _ _ (ret Value.none) _ _ _; refine wpAny_pure ⟨rfl, g3, tk3, rfl, S3, fun b o e => ?_⟩
      have lb : b < s.heap.objs.size := Heap.lt_size e
      exact mv.heap b o (by simp only [List.mem_cons, List.not_mem_nil, or_false, not_or, ps]; exact ⟨Nat.ne_of_lt lb, Nat.ne_of_lt (Nat.lt_succ_of_lt lb)⟩) (Heap.get?_push_of_some _ (Heap.get?_push_of_some _ e))
    · match r₂, er₂ with
      | .error _, er₂ => exact er₂
      | .ok .next, er₂ => exact er₂.elim
      | .ok .brk, er₂ => exact er₂.elim
      | .ok .cont, er₂ => exact er₂.elim
      | .ok (.ret _), ⟨e9, g, tk, e10, S9, k9⟩ =>
        subst e9 e10
        repeat (any_goals (first | assumption | wp_step))
        exact k _ _ S9 k9

set_option maxHeartbeats 8000000 in
/-- set(x), x a tuple of unlike texts -/
theorem set_of_tuple {l : Addr} {its : Array Value} {zs : List Str} {Q : Value → Shared → Prop} (calm : A.handled = none) (at_ : s.heap.IsTuple l its) (are : StrsAre its.toList zs) (nd : zs.Nodup) (few : zs.length + 1 < scanBound)
    (k : ∀ (g : Heap) (tk : Nat), g.SetOf (strKind p w) s.heap.objs.size (fun y => zs.any (· == y)) its.size → (∀ b o, s.heap.get? b = some o → g.get? b = some o) → Q (.ref s.heap.objs.size) { s with heap := g, toks := tk }) : wpAny (model p w) A (call (.type "set") [.ref l]) Q E s := by
  obtain ⟨c0, c1, eMro⟩ := F.called_set.mro; have eMade := F.called_set.made; have eSub := F.called_set.sub
  refine wpAny_call (codeAny_of_tree ?_); show wpAny _ _ (callAny (.type "set") _) _ _ _
  refine wpAny_pure ⟨Code.quiet_builtin _ (by decide +kernel), codeAny_builtin F.entry_type_call ?_⟩; rw [Around.under_plain (weight_type_call_type "set" [.ref l] []) rfl]
  have e1 := F.called_set.notType; have e2 := F.called_set.canCreate; have e3 := F.typeCall_set_1 (.ref l)
  repeat (any_goals (first | assumption | wp_step))
  refine codeAny_mono (code_set_new_1 (.ref l) (E := E) (Q₁ := fun o s₁ => ∃ led, o = .ref s.heap.objs.size ∧ s₁ = { s with heap := s.heap.push (emptyS led) }) fun led => ⟨led, rfl, rfl⟩) fun r s₁ er => ?_
  match r, er with
  | .error _, er => exact er
  | .ok .next, er => exact er.elim
  | .ok .brk, er => exact er.elim
  | .ok .cont, er => exact er.elim
  | .ok (.ret o), ⟨led, e5, e6⟩ =>
    subst e5 e6
    have eS : (s.heap.push (emptyS led)).get? s.heap.objs.size = some (emptyS led) := Heap.get?_push_size _ rfl
    have eT : Shared.TypeIs { s with heap := s.heap.push (emptyS led) } (.ref s.heap.objs.size) "set" := ⟨_, eS, rfl⟩
    have e7 := F.called_set.init.lookup; have e8 := F.called_set.init.bind (.ref s.heap.objs.size)
    repeat (any_goals (first | assumption | wp_step))
    refine codeAny_mono (codeAny_call_builtin (R := wants (fun r s₂ => r = .none ∧ ∃ g tk, s₂ = { s with heap := g, toks := tk } ∧ g.SetOf (strKind p w) s.heap.objs.size (fun y => zs.any (· == y)) its.size ∧ ∀ b o, s.heap.get? b = some o → g.get? b = some o) E) F.called_set.init.plain F.entry_set_init (check_set_init_1 eT ?_)) fun r₂ s₂ er₂ => ?_
    · obtain ⟨⟨cls, odc, odt, osl⟩, here, ecl, m, edt⟩ := at_
      simp only at ecl edt; subst ecl edt
      have here2 : (s.heap.push (emptyS led)).get? l = some { cls := .type "tuple", dict := odc, data := .seq its m, slots := osl } := Heap.get?_push_of_some _ here
      have f1 := F.sub_tuple_set; have f2 := F.sub_tuple_frozenset; have f3 : (Value.type "tuple" == Value.type "dict") = false := by decide
      have its1 : (s.heap.push (emptyS led)).IsTuple l its := ⟨_, here2, rfl, m, rfl⟩
      unfold Builtin.«set.__init__» noKeywords Builtin.Frozenset.updateFrom
      generalize eIter : pyIter = It
      wp_walk
      subst eIter
      refine wpAny_pyIter_tuple its1 (wpAny_bind (wpAny_runValue ?_))
      have lt : l < s.heap.objs.size := Heap.lt_size here
      have calm3 : A.in1.in1.in1.handled = none := by simp [calm]
      have ps : (s.heap.push (emptyS led)).objs.size = s.heap.objs.size + 1 := Heap.size_push ..
      have n1 : l ≠ (s.heap.push (emptyS led)).objs.size := by rw [ps]; exact Nat.ne_of_lt (Nat.lt_succ_of_lt lt)
      have n2 : s.heap.objs.size ∉ [(s.heap.push (emptyS led)).objs.size, l] := by simp only [List.mem_cons, List.not_mem_nil, or_false, not_or, ps]; exact ⟨Nat.ne_of_lt (Nat.lt_succ_self _), Nat.ne_of_gt lt⟩
      have sz : zs.length = its.size := by rw [← StrsAre.len_eq are, Array.length_toList]
      have eS2 : ((s.heap.push (emptyS led)).push { cls := .type "tuple_iterator", data := .fields #[.ref l, .int 0 0] }).get? s.heap.objs.size = some (emptyS led) := Heap.get?_push_of_some _ eS
      refine strs_put ((Walks.tuple calm3 _ l n1 its).toS) s.heap.objs.size n2 zs sz nd (by omega) (fun i v ev => SS.strs_at are i v (by rw [Array.getElem?_toList]; exact ev)) its.size 0 _ rfl (Nat.zero_le _) ⟨⟨_, Heap.get?_push_size _ rfl, rfl, rfl⟩, its1.push _⟩
        (SetOf_congr ((setObjOf_fresh (knd := strKind p w) led).setOf eS2 (by unfold scanBound; omega)) (fun _ => rfl) rfl) fun s3 mv S3 => ?_
      obtain ⟨g3, gs3, dr3, tk3, os3⟩ := s3
      obtain rfl : gs3 = s.gens := mv.gens; obtain rfl : dr3 = s.drawn := mv.drawn; obtain rfl : os3 = s.os := mv.os
      show wpAny _ _ _ _ _ _; refine wpAny_pure ?_
      show wpAny _ _ (ret Value.none) _ _ _; refine wpAny_pure ⟨rfl, g3, tk3, rfl, S3, fun b o e => ?_⟩
      have lb : b < s.heap.objs.size := Heap.lt_size e
      exact mv.heap b o (by simp only [List.mem_cons, List.not_mem_nil, or_false, not_or, ps]; exact ⟨Nat.ne_of_lt lb, Nat.ne_of_lt (Nat.lt_succ_of_lt lb)⟩) (Heap.get?_push_of_some _ (Heap.get?_push_of_some _ e))
    · match r₂, er₂ with
      | .error _, er₂ => exact er₂
      | .ok .next, er₂ => exact er₂.elim
      | .ok .brk, er₂ => exact er₂.elim
      | .ok .cont, er₂ => exact er₂.elim
      | .ok (.ret _), ⟨e9, g, tk, e10, S9, k9⟩ =>
        subst e9 e10
        repeat (any_goals (first | assumption | wp_step))
        exact k _ _ S9 k9
end
end LkS
namespace Lk
open PySem PySem.Spec PyProof.Rows L2
/-- len(set(x)), x a list or a tuple of unlike texts -/
def tLenSetD (K : PySem.W.Frag) (ta : TE) : TE := fun σ H Q => ta σ H fun x H1 => ∃ l, ∃ zs : List Str, x = .ref l ∧ Sq K H1 l (zs.map V.str) ∧ zs.Nodup ∧ zs.length ≤ 1000 ∧ Q (.int zs.length) H1
theorem pe_lenSetD {X : Cx} {a : Expr} {ta : TE} {u1 u2 u3 pos : Pos} (hc : X.calm = true) (hg : Gl X "len") (hm : X.mg "len" = none) (hg2 : Gl X "set") (hm2 : X.mg "set" = none) (ha : PE X a ta)
    (na : starEach [a] X.env = (false, eval a X.env) :: starEach [] X.env := by rfl) : PE X (.Call (.Name "len" u1) [.Call (.Name "set" u2) [a] [] u3] [] pos) (tLenSetD X.K ta) := by
  refine ⟨fun pins s σ H Q I h => Call_ (ld_blt I hg hm boot_len (callWith_builtin1 (args_cons ?_ rfl) rfl rfl))⟩
  refine Call_ (ld_blt I hg2 hm2 boot_set (callWith_type1 (args_cons (thn (ha.run pins s σ H _ I h) fun v s1 ⟨x, H1, I1, r1, q1⟩ => args_nil ?_) na) na rfl))
  obtain ⟨l, zs, rfl, sq, nd, few, q1⟩ := q1
  cases r1
  have lb : zs.length + 1 < scanBound := by unfold scanBound; omega
  have go : ∀ (its : List Value), Vals (zs.map V.str) its → ∀ (g : Heap) (tk : Nat), g.SetOf (strKind X.prog X.w) s1.heap.objs.size (fun y => zs.any (· == y)) its.toArray.size → (∀ b o, s1.heap.get? b = some o → g.get? b = some o) →
      wpAny (model X.prog X.w) X.A (spliced (backTo pos (starEach [] X.env))) (fun vs s₂ => wpAny (model X.prog X.w) X.A (call (.builtin "len") (Value.ref s1.heap.objs.size :: vs)) (EP X pins σ Q) X.xe s₂) X.xe { s1 with heap := g, toks := tk } := fun its r g tk has keep => by
    refine args_nil ?_
    have sz : its.toArray.size = zs.length := by rw [List.size_toArray, ← r.length, List.length_map]
    rw [sz] at has
    obtain ⟨o, es, ep, t, ho, hex, hd, _, _, _, hf, hn⟩ := has
    have I2 : Inv X pins σ H1 { s1 with heap := g, toks := tk } := I1.kept fun b o e => keep b o e
    exact call_len_set ho hex hd hf (by rw [hn] <;> unfold scanBound at lb <;> omega) ⟨.int zs.length, H1, I2.tok _, ⟨_, by rw [hn]⟩, q1⟩
  rcases sq with sq | sq
  · obtain ⟨its, r, pl, _⟩ := I1.list sq
    exact LkS.set_of_list (I1.ok.hd hc) pl.isList (by simpa using strsAre_of r) nd lb fun g tk has keep => go its r g tk has keep
  · obtain ⟨its, r, pl, _⟩ := I1.tuple sq
    exact LkS.set_of_tuple (I1.ok.hd hc) pl (by simpa using strsAre_of r) nd lb fun g tk has keep => go its r g tk has keep
end Lk
set_option Elab.async false
set_option linter.all false
set_option maxRecDepth 100000
set_option maxHeartbeats 4000000
set_option pp.maxSteps 1200
set_option pp.deepTerms false
namespace K6
open PySem PySem.Spec PyProof.Rows L2 Lk
section
variable {P : Program} {w : World} {K : PySem.W.Frag} {mg : Str → Option Value} {base : Heap} {f : Addr} {fd : FuncData}
abbrev sIsName : Stmt := top 14
abbrev sAreNames : Stmt := top 15
def LETTERS : Str := "abcdefghijklmnopqrstuvwxyz"
/-- more names that the text leaves alone, and its constants -/
structure Cn (mg : Str → Option Value) : Prop where
  str : mg "str" = none
  tuple : mg "tuple" = none
  set : mg "set" = none
  sum : mg "sum" = none
  sorted : mg "sorted" = none
  zip : mg "zip" = none
  dict : mg "dict" = none
  letters : ∃ t, mg "LETTERS" = some (.str LETTERS t)
def LowOk (z : Str) : Prop := 1 ≤ z.length ∧ z.length ≤ 8 ∧ ∀ c ∈ z.cps.toList, c ∈ LETTERS.cps.toList
instance (z : Str) : Decidable (LowOk z) := by unfold LowOk; infer_instance
theorem str_lc {z : Str} {g : TG} {tt : TT} {te : TE} {vs : List Nat} {σ : L2.St} {H1 : Hp} {Q : VK} (f : Nat → Option V) (few : z.cps.toList.length ≤ 100000)
    (hs : ∀ (i : Nat) c H (R : VK) (Rn : Hp → Prop), z.cps.toList[i]? = some c → Same H1 H → (∀ H4 y, f c = some y → Same H H4 → R y H4) → (∀ H4, f c = none → Same H H4 → Rn H4) →
      g (.str ⟨#[c]⟩) (wipe σ vs) H fun σ2 H2 => wipe σ2 vs = wipe σ vs ∧ tt σ2 H2 fun c H3 => if c = true then te σ2 H3 R else Rn H3)
    (hd : ∀ D H, H1 D = none → Same H1 H → H D = some (.lst (z.cps.toList.filterMap f)) → Q (.ref D) H) : LcR (Its z) g tt te vs σ H1 Q := by
  intro D nD
  refine lc_fm walk_str z.cps.toList f (by simp) (by simpa using few) nD (fun _ _ => trivial) ?_ (fun H s e => hd D H nD s e)
  rintro i x b H H' R Rn hb s ⟨rfl, c, hc, rfl⟩ k1 k2
  have : b = c := by
    rw [Array.getElem?_toList, hc] at hb
    exact (Option.some.inj hb).symm
  subst this
  exact hs i b _ R Rn hb s k1 k2
theorem fm_bl {α : Type} (q : α → Bool) (xs : List α) : (xs.filterMap fun x => some (V.bl (q x))) = (xs.map q).map V.bl := by
  induction xs with
  | nil => rfl
  | cons x xs ih => simp [List.filterMap_cons, ih]
/-- all([q(x) for x in xs]) -/
theorem seq_all {α : Type} {K : PySem.W.Frag} {a : Addr} {g : TG} {te : TE} {vs : List Nat} {σ : L2.St} {H1 : Hp} {R : VK} (xs : List α) (e : α → V) (q : α → Bool) (hq : Sq K H1 a (xs.map e)) (few : xs.length ≤ 100000)
    (hs : ∀ (i : Nat) b H (R' : VK), xs[i]? = some b → Same H1 H → (∀ H4, Same H H4 → R' (.bl (q b)) H4) → g (e b) (wipe σ vs) H fun σ2 H2 => wipe σ2 vs = wipe σ vs ∧ te σ2 H2 R')
    (hd : ∀ H, Same H1 H → R (.bl (xs.all q)) H) :
    ((∃ zs, SqL K H1 a zs) ∧ LcR (Itl K a) g tYes te vs σ H1 fun x H2 => tNil σ H2 fun xs H3 => rAll K (x :: xs) H3 R) ∨ ((∃ zs, SqT K H1 a zs) ∧ LcR (Itt K a) g tYes te vs σ H1 fun x H2 => tNil σ H2 fun xs H3 => rAll K (x :: xs) H3 R) := by
  refine seq_lc (Q := fun x H2 => rAll K [x] H2 R) xs e (fun x => some (.bl (q x))) hq few (fun i b H R' Rn hb s k1 k2 => ?_) fun D H nD s ed => ?_
  · have z := hs i b H R' hb s fun H4 s4 => k1 H4 _ rfl s4
    have ty : (fun σ2 H2 => wipe σ2 vs = wipe σ vs ∧ te σ2 H2 R') = (fun (σ2 : L2.St) H2 => wipe σ2 vs = wipe σ vs ∧ tYes σ2 H2 fun c H3 => if c = true then te σ2 H3 R' else Rn H3) := by
      funext σ2 H2
      show _ = (_ ∧ (if true = true then te σ2 H2 R' else Rn H2))
      rw [if_pos rfl]
    rw [ty] at z
    exact z
  · rw [fm_bl] at ed
    refine ⟨D, _, rfl, SqL.of ed, ?_⟩
    have : (xs.map q).all id = xs.all q := by simp [List.all_map]
    rw [this]
    exact hd H s
def spIsName : Sp := fun vs H Q _ => ∃ z : Str, vs = [.str z] ∧ LowOk z ∧ ∀ H', Same H H' → Q (.bl true) H'
theorem scIsName : FnScope ["value", "sign"] ["value"] (defScope sIsName) := ⟨rfl, rfl, rfl, by decide +kernel, rfl, by decide +kernel, by decide +kernel⟩
theorem ok_isName (F : Fun K "is_name" "is_name" sIsName f fd) (T : Bl mg) (C : Cn mg) : FnOk P w K mg base CX0 1 f fd ["value"] spIsName := by
  refine F.ok scIsName (fun vs H Q E h => ?_) (fun cdv A outer s H vs Q E hr h => ?_)
  · obtain ⟨z, rfl, _⟩ := h
    rfl
  · obtain ⟨z, rfl, ⟨z1, z8, zl⟩, k⟩ := h
    have nd := scIsName.nd
    obtain ⟨t, ht⟩ := C.letters
    refine ⟨_, pss_cons (ps_if (PW.pt (pw_or (pt_not (pt_val (pe_callB call_isi (by rfl) T.isin boot_isinstance (pa_cons (pv 0) (pa_cons (pe_bltn (v := .ty "str") (by rfl) C.str rfl rfl) pa_nil)))))
        (pw_or1 (pt_not (pt_chain op_le op_le pe_int (pe_callB call_len_str (by rfl) T.len PySem.boot_len (pa_cons (pv 0) pa_nil)) pe_int))))) (pss_no) pss_nil)
      (pss_one (ps_ret (pe_callB (cr_all rfl) (by rfl) T.all boot_all (pa_cons (pe_lc (own := [("sign", 1)]) (g := gName 1) (tt := tYes) (te := tOp (fun x y H Q => ∃ (c : Nat) (z : Str), x = .str ⟨#[c]⟩ ∧ y = .str z ∧ Q (.bl (decide (c ∈ z.cps.toList))) H) (tVar 1) (tC (.str LETTERS))) rfl nd (pi_str (pv 0)) (blkOk_by (N := ["value", "sign"]) (sc := defScope sIsName) (by decide +kernel))
          (fun _ _ _ _ _ => pg_name (i := 1) nd rfl (Or.inl rfl)) (fun _ _ _ _ _ => pts_nil) (fun _ _ _ _ _ => pe_cmpR op_in_sign (pv 1) (pe_glob (v := .str LETTERS) (by rfl) ht ⟨_, rfl⟩) rfl)) pa_nil)))), ?_⟩
    refine ⟨_, rfl, _, _, _, _, true, rfl, .ty _, .base (.str _), by rfl, _, rfl, iteB rfl ?_⟩
    refine ⟨_, rfl, z, rfl, by rw [sizeLine_eq]; omega, _, _, rfl, rfl, _, rfl, iteA (decide_eq_true (by show (1 : Int) ≤ z.length; omega)) ?_⟩
    refine ⟨_, _, rfl, rfl, _, rfl, iteB ?_ ?_⟩
    · show (!decide ((z.length : Int) ≤ 8)) = false
      rw [decide_eq_true (by omega)]
      rfl
    have zz : z.cps.toList.length ≤ 8 := by simpa [Str.length] using z8
    refine ⟨_, rfl, z, rfl, str_lc (Q := fun x H1 => rAll K [x] H1 Q) (fun c => some (.bl (decide (c ∈ LETTERS.cps.toList)))) (by omega) ?_ ?_⟩
    · intro i c H1 R Rn hc s1 k1 k2
      exact ⟨rfl, _, rfl, c, LETTERS, rfl, rfl, k1 _ _ rfl (Same.refl _)⟩
    · intro D H1 nD s1 e
      rw [fm_bl] at e
      refine ⟨D, _, rfl, SqL.of e, ?_⟩
      have : (z.cps.toList.map fun c => decide (c ∈ LETTERS.cps.toList)).all id = true := by
        rw [List.all_eq_true]
        intro b hb
        obtain ⟨c, hc, rfl⟩ := List.mem_map.mp hb
        exact decide_eq_true (zl c hc)
      rw [this]
      exact k _ s1
def spAreNames (K : PySem.W.Frag) : Sp := fun vs H Q _ => ∃ (l : Addr) (zs : List Str), vs = [.ref l] ∧ Sq K H l (zs.map V.str) ∧ zs.length ≤ 1000 ∧ (∀ z ∈ zs, LowOk z) ∧ zs.Nodup ∧ ∀ H', Same H H' → Q (.bl true) H'
theorem scAreNames : FnScope ["some", "name"] ["some"] (defScope sAreNames) := ⟨rfl, rfl, rfl, by decide +kernel, rfl, by decide +kernel, by decide +kernel⟩
theorem ok_areNames {f1 : Addr} {fd1 : FuncData} (F : Fun K "are_names" "are_names" sAreNames f fd) (T : Bl mg) (C : Cn mg) (F1 : Fun K "is_name" "is_name" sIsName f1 fd1) (b1 : Binds K fd1 ["value"] []) (m1 : mg "is_name" = some (.ref f1)) :
    FnOk P w K mg base CX0 2 f fd ["some"] (spAreNames K) := by
  have G1 : FnOk P w K mg base CX0 1 f1 fd1 ["value"] spIsName := ok_isName F1 T C
  refine F.ok scAreNames (fun vs H Q E h => ?_) (fun cdv A outer s H vs Q E hr h => ?_)
  · obtain ⟨l, zs, rfl, _⟩ := h
    rfl
  · obtain ⟨l, zs, rfl, hl, few, low, ndz, k⟩ := h
    have nd := scAreNames.nd
    refine ⟨_, pss_one (ps_ret (pe_and (pe_callB (cr_all rfl) (by rfl) T.all boot_all (pa_cons (pe_lc (own := [("name", 1)]) (g := gName 1) (tt := tYes) (te := tCall spIsName [] E0 (tCons (tVar 1) tNil)) rfl nd (pi_seq (pi_list (pv 0)) (pi_tup (pv 0))) (blkOk_by (N := ["some", "name"]) (sc := defScope sAreNames) (by decide +kernel))
          (fun _ _ _ _ _ => pg_name (i := 1) nd rfl (Or.inl rfl)) (fun _ _ _ _ _ => pts_nil) (fun _ _ _ _ _ => pe_call G1 hr (by rfl) m1 F1.kp b1 .nil pass0 (pa_cons (pv 1) pa_nil))) pa_nil))
        (pe_one (pe_cmpR op_eq (pe_lenSetD rfl (by rfl) T.len (by rfl) C.set (pv 0)) (pe_callB call_len_seq (by rfl) T.len PySem.boot_len (pa_cons (pv 0) pa_nil)) (nomark _))))), ?_⟩
    refine ⟨l, rfl, seq_all zs V.str (fun _ => true) hl (by omega) (fun i z H1 R hz s1 k1 => ⟨rfl, _, rfl, z, rfl, low z (List.mem_of_getElem? hz), fun H2 s2 => k1 _ s2⟩) fun H1 s1 => ?_⟩
    have : (zs.all fun _ => true) = true := by simp
    rw [this]
    refine ⟨_, rfl, iteT ⟨_, rfl, l, zs, rfl, hl.same s1, ndz, few, _, rfl, l, _, rfl, hl.same s1, rfl, ?_⟩⟩
    rw [List.length_map, decide_eq_true rfl]
    exact k _ s1
end
end K6
set_option Elab.async false
set_option linter.all false
set_option maxRecDepth 100000
set_option maxHeartbeats 4000000
set_option pp.maxSteps 1200
set_option pp.deepTerms false
namespace K6
open PySem PySem.Spec PyProof.Rows L2 Lk
section
variable {P : Program} {w : World} {K : PySem.W.Frag} {mg : Str → Option Value} {base : Heap} {f : Addr} {fd : FuncData}
theorem at0 {xs : List V} {v : V} (h : xs[0]? = some v) : atI xs 0 = some v := atI_nat h
end
end K6
set_option Elab.async false
set_option linter.all false
set_option maxRecDepth 100000
set_option maxHeartbeats 4000000
set_option pp.maxSteps 1200
set_option pp.deepTerms false
namespace K6
open PySem PySem.Spec PyProof.Rows L2 Lk
section
variable {P : Program} {w : World} {K : PySem.W.Frag} {mg : Str → Option Value} {base : Heap} {f : Addr} {fd : FuncData}
def RelP (H : Hp) (v : V) (p : List Str) : Prop := ∃ t, v = V.ref t ∧ H t = some (.tup (p.map V.str))
theorem RelP.keep (H H' : Hp) (v : V) (p : List Str) (k : Keep H H') (h : RelP H v p) : RelP H' v p := by
  obtain ⟨t, e, h⟩ := h
  exact ⟨t, e, k _ _ h fun xs z => by cases z⟩
end
end K6
set_option Elab.async false
set_option linter.all false
set_option maxRecDepth 100000
set_option maxHeartbeats 4000000
set_option pp.maxSteps 1200
set_option pp.deepTerms false
namespace K6
open PySem PySem.Spec PyProof.Rows L2 Lk
section
variable {P : Program} {w : World} {K : PySem.W.Frag} {mg : Str → Option Value} {base : Heap} {f : Addr} {fd : FuncData}
abbrev sCircInit : Stmt := inClass (top 17) 0
/-- what is asked of the class Circle -/
structure CircC (K : PySem.W.Frag) (C fI : Addr) : Prop where
  cls : Cls K C
  nm : NoAttr K C "names"
  mkr : Mk K C fI
/-- a circle of these names -/
def CircAt (H : Hp) (C c : Addr) (zs : List Str) : Prop := ∃ dx nm, H c = some (.ins C dx [("names", .ref nm)]) ∧ TupX H nm (zs.map V.str)
theorem isi_tup {xs : List V} {H : Hp} {a : Addr} (h : TupX H a xs) : TyX K H (.ref a) (.type "tuple") := by
  obtain ⟨ob, e, _⟩ := h
  exact .fTuple e
def spCircI (K : PySem.W.Frag) (C : Addr) : Sp := fun vs H Q _ => ∃ (x nm dx : Addr) (zs : List Str), vs = [.ref x, .ref nm] ∧ H x = some (.ins C dx []) ∧ TupX H nm (zs.map V.str) ∧ 2 ≤ zs.length ∧ zs.length ≤ 6 ∧ (∀ z ∈ zs, LowOk z) ∧ zs.Nodup ∧
  ∀ H', (∀ b o, b ≠ x → H b = some o → H' b = some o) → H' x = some (.ins C dx [("names", .ref nm)]) → Q .non H'
theorem scCircI : FnScope ["self", "names"] ["self", "names"] (defScope sCircInit) := ⟨rfl, rfl, rfl, by decide +kernel, rfl, by decide +kernel, by decide +kernel⟩
theorem ok_circI {C fC : Addr} {f1 f2 : Addr} {fd1 fd2 : FuncData} (F : Fun K "__init__" "Circle.__init__" sCircInit f fd) (T : Bl mg) (Cc : Cn mg) (CC : CircC K C fC) (F1 : Fun K "is_name" "is_name" sIsName f1 fd1) (b1 : Binds K fd1 ["value"] []) (m1 : mg "is_name" = some (.ref f1))
    (F2 : Fun K "are_names" "are_names" sAreNames f2 fd2) (b2 : Binds K fd2 ["some"] []) (m2 : mg "are_names" = some (.ref f2)) : FnOk P w K mg base CX0 3 f fd ["self", "names"] (spCircI K C) := by
  have G2 : FnOk P w K mg base CX0 2 f2 fd2 ["some"] (spAreNames K) := ok_areNames F2 T Cc F1 b1 m1
  refine F.ok scCircI (fun vs H Q E h => ?_) (fun cdv A outer s H vs Q E hr h => ?_)
  · obtain ⟨x, nm, dx, zs, rfl, _⟩ := h
    rfl
  · obtain ⟨x, nm, dx, zs, rfl, hx, hn, z2, z6, low, ndz, k⟩ := h
    have nd := scCircI.nd
    refine ⟨_, pss_cons (ps_if (PW.pt (pw_or (pt_not (pt_val (pe_callB call_isi (by rfl) T.isin boot_isinstance (pa_cons (pv 1) (pa_cons (pe_bltn (v := .ty "tuple") (by rfl) Cc.tuple rfl rfl) pa_nil)))))
        (pw_or (pt_not (pt_chain op_le op_le pe_int (pe_callB call_len_seq (by rfl) T.len PySem.boot_len (pa_cons (pv 1) pa_nil)) pe_int))
        (pw_or1 (pt_not (pt_val (pe_call G2 hr (by rfl) m2 F2.kp b2 .nil pass0 (pa_cons (pv 1) pa_nil)))))))) pss_no pss_nil)
      (pss_one (ps_fld (pv 0) (pv 1) rfl)), ?_⟩
    have zl : ((zs.map V.str).length : Int) = zs.length := by rw [List.length_map]
    refine ⟨_, rfl, _, _, _, _, true, rfl, .ty _, isi_tup hn, by rfl, _, rfl, iteB rfl ?_⟩
    refine ⟨_, rfl, nm, _, rfl, .inr hn.sq, _, _, rfl, rfl, _, rfl, iteA (decide_eq_true (by rw [zl]; omega)) ?_⟩
    refine ⟨_, _, rfl, rfl, _, rfl, iteB (by rw [decide_eq_true (by rw [zl]; omega)]; rfl) ?_⟩
    refine ⟨_, rfl, nm, zs, rfl, .inr hn.sq, by omega, low, ndz, fun H1 s1 => ⟨_, rfl, iteB rfl ?_⟩⟩
    refine ⟨_, rfl, _, rfl, x, C, dx, [], rfl, s1 _ _ hx, CC.cls, CC.nm, by decide, ?_⟩
    exact k _ (fun b o nb e => by rw [upd_ne nb]; exact s1 _ _ e) upd_same
end
end K6
set_option Elab.async false
set_option linter.all false
set_option maxRecDepth 100000
set_option maxHeartbeats 4000000
set_option pp.maxSteps 1200
set_option pp.deepTerms false
namespace K6
open PySem PySem.Spec PyProof.Rows L2 Lk
section
variable {P : Program} {w : World} {K : PySem.W.Frag} {mg : Str → Option Value} {base : Heap} {f : Addr} {fd : FuncData}
abbrev Spot := Str × Nat
def spotsOf (ks : List KP) : List Spot := ks.flatMap fun k => (List.range k.2.length).map fun i => (k.1, i)
def RelS (H : Hp) (v : V) (s : Spot) : Prop := ∃ t, v = V.ref t ∧ H t = some (.tup [.str s.1, .int (s.2 : Int)])
theorem RelS.keep (H H' : Hp) (v : V) (s : Spot) (k : Keep H H') (h : RelS H v s) : RelS H' v s := by
  obtain ⟨t, e, h⟩ := h
  exact ⟨t, e, k _ _ h fun xs z => by cases z⟩
/-- the tuple of the tuples of pieces, as a shelf holds it -/
def PcsAt (H : Hp) (q : Addr) (ks : List KP) : Prop := ∃ rows, H q = some (.tup rows) ∧ Paired (fun v (k : KP) => ∃ r ts, v = V.ref r ∧ H r = some (.tup ts) ∧ Pieces H ts k.2) rows ks
def rLenS (K : PySem.W.Frag) : List V → Hp → VK → Prop := fun xs H Q => ∃ p ys, xs = [.ref p] ∧ (SqL K H p ys ∨ SqT K H p ys) ∧ Q (.int ys.length) H
end
end K6
set_option Elab.async false
set_option linter.all false
set_option maxHeartbeats 4000000
/-! Part F: vectors over two values; spans and what is orthogonal to them. -/
namespace Lk
abbrev Vec := List Bool
def vx : Vec → Vec → Vec
  | a :: as, b :: bs => xor a b :: vx as bs
  | _, _ => []
def dot : Vec → Vec → Bool
  | a :: as, b :: bs => xor (a && b) (dot as bs)
  | _, _ => false
def zv (n : Nat) : Vec := List.replicate n false
theorem vx_len : ∀ {a b : Vec} {n : Nat}, a.length = n → b.length = n → (vx a b).length = n
  | [], [], _, h, _ => h
  | _ :: as, _ :: bs, 0, h, _ => by simp at h
  | _ :: as, _ :: bs, n + 1, h, g => by
    show (vx as bs).length + 1 = n + 1
    rw [vx_len (Nat.succ.inj h) (Nat.succ.inj g)]
  | [], _ :: _, 0, _, g => by simp at g
  | [], _ :: _, _ + 1, h, _ => by simp at h
  | _ :: _, [], 0, h, _ => by simp at h
  | _ :: _, [], _ + 1, _, g => by simp at g
theorem vx_comm : ∀ a b : Vec, vx a b = vx b a
  | [], [] => rfl
  | [], _ :: _ => rfl
  | _ :: _, [] => rfl
  | a :: as, b :: bs => by
    show xor a b :: vx as bs = xor b a :: vx bs as
    rw [vx_comm as bs, Bool.xor_comm]
theorem vx_assoc : ∀ {a b c : Vec} {n : Nat}, a.length = n → b.length = n → c.length = n → vx (vx a b) c = vx a (vx b c)
  | [], [], [], _, _, _, _ => rfl
  | a :: as, b :: bs, c :: cs, 0, h, _, _ => by simp at h
  | a :: as, b :: bs, c :: cs, n + 1, h, g, k => by
    show xor (xor a b) c :: vx (vx as bs) cs = xor a (xor b c) :: vx as (vx bs cs)
    rw [vx_assoc (Nat.succ.inj h) (Nat.succ.inj g) (Nat.succ.inj k), Bool.xor_assoc]
  | [], [], _ :: _, _, h, _, k => by rw [← h] at k; simp at k
  | [], _ :: _, _, _, h, g, _ => by rw [← h] at g; simp at g
  | _ :: _, [], _, _, h, g, _ => by rw [← g] at h; simp at h
  | _ :: _, _ :: _, [], _, h, _, k => by rw [← k] at h; simp at h
theorem vx_self : ∀ a : Vec, vx a a = zv a.length
  | [] => rfl
  | a :: as => by
    show xor a a :: vx as as = false :: zv as.length
    rw [vx_self as, Bool.xor_self]
theorem vx_zero : ∀ {a : Vec} {n : Nat}, a.length = n → vx a (zv n) = a
  | [], 0, _ => rfl
  | [], _ + 1, h => by simp at h
  | _ :: _, 0, h => by simp at h
  | a :: as, n + 1, h => by
    show xor a false :: vx as (zv n) = a :: as
    rw [vx_zero (Nat.succ.inj h), Bool.xor_false]
theorem zv_len (n : Nat) : (zv n).length = n := List.length_replicate ..
/-- adding the same twice -/
theorem vx_back {a b : Vec} {n : Nat} (ha : a.length = n) (hb : b.length = n) : vx (vx a b) b = a := by
  rw [vx_assoc ha hb hb, vx_self, hb, vx_zero ha]
theorem dot_vx : ∀ {a b r : Vec}, a.length = b.length → dot (vx a b) r = xor (dot a r) (dot b r)
  | [], [], _, _ => by simp [vx, dot]
  | a :: as, b :: bs, [], _ => by simp [vx, dot]
  | a :: as, b :: bs, r :: rs, h => by
    show xor (xor a b && r) (dot (vx as bs) rs) = xor (xor (a && r) (dot as rs)) (xor (b && r) (dot bs rs))
    rw [dot_vx (Nat.succ.inj h)]
    cases a <;> cases b <;> cases r <;> cases dot as rs <;> cases dot bs rs <;> rfl
theorem dot_comm : ∀ a b : Vec, dot a b = dot b a
  | [], [] => rfl
  | [], _ :: _ => rfl
  | _ :: _, [] => rfl
  | a :: as, b :: bs => by
    show xor (a && b) (dot as bs) = xor (b && a) (dot bs as)
    rw [dot_comm as bs, Bool.and_comm]
theorem dot_zero : ∀ (n : Nat) (r : Vec), dot (zv n) r = false
  | 0, [] => rfl
  | 0, _ :: _ => rfl
  | _ + 1, [] => rfl
  | n + 1, r :: rs => by
    show xor (false && r) (dot (zv n) rs) = false
    rw [dot_zero n rs]
    rfl
theorem dot_zero' (n : Nat) (r : Vec) : dot r (zv n) = false := by rw [dot_comm, dot_zero]
/-- what is not in a space can be told from it -/
theorem dual : ∀ (n : Nat) (S : Vec → Prop), S (zv n) → (∀ a b, S a → S b → S (vx a b)) → (∀ a, S a → a.length = n) → ∀ c : Vec, c.length = n → ¬ S c → ∃ r : Vec, r.length = n ∧ (∀ a, S a → dot a r = false) ∧ dot c r = true
  | 0, S, h0, _, _, c, hc, nc => by
    have : c = [] := List.eq_nil_of_length_eq_zero hc
    exact absurd (by rw [this]; exact h0) nc
  | n + 1, S, h0, hx, hl, c, hc, nc => by
    match c, hc, nc with
    | c0 :: c', hc, nc =>
    have hc' : c'.length = n := Nat.succ.inj hc
    have S0 : (fun a => S (false :: a)) (zv n) := h0
    have Sx : ∀ a b, (fun a => S (false :: a)) a → (fun a => S (false :: a)) b → (fun a => S (false :: a)) (vx a b) := fun a b ha hb => hx _ _ ha hb
    have Sl : ∀ a, (fun a => S (false :: a)) a → a.length = n := fun a ha => Nat.succ.inj (hl _ ha)
    by_cases hT : ∃ t, S (true :: t)
    · obtain ⟨t, ht⟩ := hT
      have tl : t.length = n := Nat.succ.inj (hl _ ht)
      have key : ∃ d : Vec, d.length = n ∧ ¬ S (false :: d) ∧ (∀ r', dot d r' = true → xor (c0 && dot t r') (dot c' r') = true) := by
        cases c0 with
        | false => exact ⟨c', hc', nc, fun r' h => by simpa using h⟩
        | true =>
          refine ⟨vx c' t, vx_len hc' tl, fun h => nc ?_, fun r' h => ?_⟩
          · have := hx _ _ h ht
            have e : vx (false :: vx c' t) (true :: t) = true :: c' := by
              show xor false true :: vx (vx c' t) t = _
              rw [vx_back hc' tl]
              rfl
            rwa [e] at this
          · rw [dot_vx (by rw [hc', tl])] at h
            revert h
            cases dot t r' <;> cases dot c' r' <;> simp
      obtain ⟨d, dl, dn, dk⟩ := key
      obtain ⟨r', rl, r0, r1⟩ := dual n _ S0 Sx Sl d dl dn
      refine ⟨dot t r' :: r', by simp [rl], fun a ha => ?_, ?_⟩
      · match a, ha with
        | [], ha => rfl
        | false :: a', ha =>
          show xor (false && dot t r') (dot a' r') = false
          rw [r0 a' ha]
          rfl
        | true :: a', ha =>
          have al : a'.length = n := Nat.succ.inj (hl _ ha)
          have h2 := r0 (vx a' t) (by
            have := hx _ _ ha ht
            exact this)
          rw [dot_vx (by rw [al, tl])] at h2
          show xor (true && dot t r') (dot a' r') = false
          revert h2
          cases dot t r' <;> cases dot a' r' <;> simp
      · exact dk r' r1
    · have no : ∀ a', ¬ S (true :: a') := fun a' h => hT ⟨a', h⟩
      cases c0 with
      | true =>
        refine ⟨true :: zv n, by simp [zv_len], fun a ha => ?_, ?_⟩
        · match a, ha with
          | [], ha => rfl
          | false :: a', ha =>
            show xor (false && true) (dot a' (zv n)) = false
            rw [dot_zero']
            rfl
          | true :: a', ha => exact absurd ha (no a')
        · show xor (true && true) (dot c' (zv n)) = true
          rw [dot_zero']
          rfl
      | false =>
        obtain ⟨r', rl, r0, r1⟩ := dual n _ S0 Sx Sl c' hc' nc
        refine ⟨false :: r', by simp [rl], fun a ha => ?_, ?_⟩
        · match a, ha with
          | [], ha => rfl
          | false :: a', ha =>
            show xor (false && false) (dot a' r') = false
            rw [r0 a' ha]
            rfl
          | true :: a', ha => exact absurd ha (no a')
        · show xor (false && false) (dot c' r') = true
          rw [r1]
          rfl
/-! ### all vectors -/
def allV : Nat → List Vec
  | 0 => [[]]
  | n + 1 => (allV n).map (false :: ·) ++ (allV n).map (true :: ·)
theorem allV_len : ∀ n, (allV n).length = 2 ^ n
  | 0 => rfl
  | n + 1 => by
    show ((allV n).map (false :: ·) ++ (allV n).map (true :: ·)).length = _
    rw [List.length_append, List.length_map, List.length_map, allV_len n, Nat.pow_succ]
    omega
theorem mem_allV : ∀ {n : Nat} {v : Vec}, v ∈ allV n ↔ v.length = n
  | 0, v => by simp [allV]
  | n + 1, [] => by simp [allV]
  | n + 1, b :: v => by
    have ih := mem_allV (n := n) (v := v)
    cases b <;> simp [allV, ih]
theorem nodup_allV : ∀ n, (allV n).Nodup
  | 0 => by simp [allV]
  | n + 1 => by
    have ih := nodup_allV n
    show ((allV n).map (false :: ·) ++ (allV n).map (true :: ·)).Nodup
    rw [List.nodup_append]
    refine ⟨?_, ?_, ?_⟩
    · rw [List.nodup_iff_pairwise_ne, List.pairwise_map]
      exact (List.nodup_iff_pairwise_ne.mp ih).imp fun h e => h (List.cons.inj e).2
    · rw [List.nodup_iff_pairwise_ne, List.pairwise_map]
      exact (List.nodup_iff_pairwise_ne.mp ih).imp fun h e => h (List.cons.inj e).2
    · intro a ha b hb e
      obtain ⟨x, _, rfl⟩ := List.mem_map.mp ha
      obtain ⟨y, _, rfl⟩ := List.mem_map.mp hb
      exact Bool.noConfusion (List.cons.inj e).1
theorem shift_perm {n : Nat} {r : Vec} (hr : r.length = n) : ((allV n).map fun v => vx v r).Perm (allV n) := by
  have nd : ((allV n).map fun v => vx v r).Nodup := by
    rw [List.nodup_iff_pairwise_ne, List.pairwise_map]
    have h := List.nodup_iff_pairwise_ne.mp (nodup_allV n)
    refine (List.Pairwise.and_mem.mp h).imp ?_
    rintro a b ⟨ha, hb, ne⟩ e
    refine ne ?_
    have := congrArg (fun v => vx v r) e
    rwa [vx_back (mem_allV.mp ha) hr, vx_back (mem_allV.mp hb) hr] at this
  refine (List.perm_ext_iff_of_nodup nd (nodup_allV n)).mpr fun a => ?_
  rw [List.mem_map]
  constructor
  · rintro ⟨b, hb, rfl⟩
    exact mem_allV.mpr (vx_len (mem_allV.mp hb) hr)
  · intro ha
    have al := mem_allV.mp ha
    exact ⟨vx a r, mem_allV.mpr (vx_len al hr), vx_back al hr⟩
theorem count_shift {n : Nat} {r : Vec} (hr : r.length = n) (P : Vec → Bool) : ((allV n).filter fun v => P (vx v r)).length = ((allV n).filter P).length := by
  have := ((shift_perm hr).filter P).length_eq
  rw [List.filter_map, List.length_map] at this
  exact this
end Lk
set_option Elab.async false
set_option linter.all false
set_option maxHeartbeats 4000000
/-! Part F2: the table of all sums of rows. -/
namespace Lk
def sumV (n : Nat) (vs : List Vec) : Vec := vs.foldl vx (zv n)
theorem sumV_snoc (n : Nat) (vs : List Vec) (v : Vec) : sumV n (vs ++ [v]) = vx (sumV n vs) v := by
  unfold sumV
  rw [List.foldl_append]
  rfl
abbrev RowV (σ : Type) := σ × Vec
abbrev Tab (σ : Type) := List (Vec × List (RowV σ))
def stepT {σ : Type} (tb : Tab σ) (r : RowV σ) : Tab σ := if r.2 ∈ tb.map (·.1) then tb else tb ++ tb.map fun e => (vx e.1 r.2, e.2 ++ [r])
def tableT {σ : Type} (n : Nat) (rows : List (RowV σ)) : Tab σ := rows.foldl stepT [(zv n, [])]
def kerL {σ : Type} (n : Nat) (rows : List (RowV σ)) : List Vec := (allV n).filter fun v => rows.all fun r => !dot r.2 v
structure TbOk {σ : Type} (n : Nat) (rows : List (RowV σ)) (tb : Tab σ) : Prop where
  len : ∀ e ∈ tb, e.1.length = n
  nd : (tb.map (·.1)).Nodup
  zero : zv n ∈ tb.map (·.1)
  closed : ∀ a b, a ∈ tb.map (·.1) → b ∈ tb.map (·.1) → vx a b ∈ tb.map (·.1)
  rows_in : ∀ r ∈ rows, r.2 ∈ tb.map (·.1)
  sums : ∀ e ∈ tb, e.2.Sublist rows ∧ e.1 = sumV n (e.2.map (·.2))
  orth : ∀ v, (∀ r ∈ rows, dot r.2 v = false) → ∀ a ∈ tb.map (·.1), dot a v = false
  rank : tb.length * (kerL n rows).length = 2 ^ n
theorem filter_split {α : Type} (P Q : α → Bool) : ∀ xs : List α, (xs.filter P).length = (xs.filter fun x => P x && Q x).length + (xs.filter fun x => P x && !Q x).length
  | [] => rfl
  | x :: xs => by
    have ih := filter_split P Q xs
    cases hp : P x <;> cases hq : Q x <;> simp [List.filter_cons, hp, hq, ih] <;> omega
theorem dot_vx_r {a v r : Vec} (h : v.length = r.length) : dot a (vx v r) = xor (dot a v) (dot a r) := by
  rw [dot_comm a (vx v r), dot_vx h, dot_comm v a, dot_comm r a]
section
variable {σ : Type}
theorem tb_nil (n : Nat) : TbOk (σ := σ) n [] [(zv n, [])] := by
  refine ⟨fun e he => ?_, by simp, by simp, fun a b ha hb => ?_, by simp, fun e he => ?_, fun v _ a ha => ?_, ?_⟩
  · rw [List.mem_singleton.mp he]
    exact zv_len n
  · simp only [List.map_cons, List.map_nil, List.mem_singleton] at ha hb ⊢
    rw [ha, hb]
    exact vx_zero (zv_len n)
  · rw [List.mem_singleton.mp he]
    exact ⟨List.Sublist.refl _, rfl⟩
  · simp only [List.map_cons, List.map_nil, List.mem_singleton] at ha
    rw [ha]
    exact dot_zero n v
  · have : kerL (σ := σ) n [] = allV n := by
      unfold kerL
      simp
    rw [this, allV_len]
    simp
theorem tb_step {n : Nat} {rows : List (RowV σ)} {tb : Tab σ} (h : TbOk n rows tb) {r : RowV σ} (hr : r.2.length = n) : TbOk n (rows ++ [r]) (stepT tb r) := by
  have kl : ∀ a ∈ tb.map (·.1), a.length = n := fun a ha => by
    obtain ⟨e, he, rfl⟩ := List.mem_map.mp ha
    exact h.len e he
  unfold stepT
  by_cases hc : r.2 ∈ tb.map (·.1)
  · rw [if_pos hc]
    refine ⟨h.len, h.nd, h.zero, h.closed, fun q hq => ?_, fun e he => ?_, fun v hv => ?_, ?_⟩
    · rcases List.mem_append.mp hq with hq | hq
      · exact h.rows_in q hq
      · rw [List.mem_singleton.mp hq]
        exact hc
    · exact ⟨List.sublist_append_of_sublist_left (h.sums e he).1, (h.sums e he).2⟩
    · exact h.orth v fun q hq => hv q (List.mem_append_left _ hq)
    · have : kerL n (rows ++ [r]) = kerL n rows := by
        unfold kerL
        refine List.filter_congr fun v _ => ?_
        rw [List.all_append]
        cases e : rows.all fun r => !dot r.2 v with
        | false => rfl
        | true =>
          have := h.orth v (fun q hq => by
            have := List.all_eq_true.mp e q hq
            simpa using this) _ hc
          simp [this]
      rw [this]
      exact h.rank
  · rw [if_neg hc]
    have keys : (tb ++ tb.map fun e => (vx e.1 r.2, e.2 ++ [r])).map (·.1) = tb.map (·.1) ++ (tb.map (·.1)).map fun a => vx a r.2 := by
      rw [List.map_append, List.map_map, List.map_map]
      rfl
    have shift : ∀ a b, a ∈ tb.map (·.1) → b ∈ tb.map (·.1) → vx a r.2 = b → False := fun a b ha hb e => by
      refine hc ?_
      have e2 : vx b a = r.2 := by
        rw [← e, vx_comm (vx a r.2) a, ← vx_assoc (kl a ha) (kl a ha) hr, vx_self, kl a ha, vx_comm, vx_zero hr]
      rw [← e2]
      exact h.closed _ _ hb ha
    refine ⟨fun e he => ?_, ?_, ?_, ?_, ?_, ?_, ?_, ?_⟩
    · rcases List.mem_append.mp he with he | he
      · exact h.len e he
      · obtain ⟨q, hq, rfl⟩ := List.mem_map.mp he
        exact vx_len (h.len q hq) hr
    · rw [keys, List.nodup_append]
      refine ⟨h.nd, ?_, fun a ha b hb e => ?_⟩
      · rw [List.nodup_iff_pairwise_ne, List.pairwise_map]
        refine (List.Pairwise.and_mem.mp (List.nodup_iff_pairwise_ne.mp h.nd)).imp ?_
        rintro a b ⟨ha, hb, ne⟩ e
        refine ne ?_
        have := congrArg (fun v => vx v r.2) e
        rwa [vx_back (kl a ha) hr, vx_back (kl b hb) hr] at this
      · obtain ⟨x, hx, rfl⟩ := List.mem_map.mp hb
        exact shift x a hx ha e.symm
    · rw [keys]
      exact List.mem_append_left _ h.zero
    · intro a b ha hb
      rw [keys] at ha hb ⊢
      rcases List.mem_append.mp ha with ha | ha
      · rcases List.mem_append.mp hb with hb | hb
        · exact List.mem_append_left _ (h.closed _ _ ha hb)
        · obtain ⟨y, hy, rfl⟩ := List.mem_map.mp hb
          refine List.mem_append_right _ (List.mem_map.mpr ⟨vx a y, h.closed _ _ ha hy, ?_⟩)
          rw [vx_assoc (kl a ha) (kl y hy) hr]
      · obtain ⟨x, hx, rfl⟩ := List.mem_map.mp ha
        rcases List.mem_append.mp hb with hb | hb
        · refine List.mem_append_right _ (List.mem_map.mpr ⟨vx x b, h.closed _ _ hx hb, ?_⟩)
          rw [vx_assoc (kl x hx) (kl b hb) hr, vx_assoc (kl x hx) hr (kl b hb), vx_comm r.2 b]
        · obtain ⟨y, hy, rfl⟩ := List.mem_map.mp hb
          refine List.mem_append_left _ ?_
          have : vx (vx x r.2) (vx y r.2) = vx x y := by
            rw [vx_assoc (kl x hx) hr (vx_len (kl y hy) hr), vx_comm r.2 (vx y r.2), vx_back (kl y hy) hr]
          rw [this]
          exact h.closed _ _ hx hy
    · intro q hq
      rw [keys]
      rcases List.mem_append.mp hq with hq | hq
      · exact List.mem_append_left _ (h.rows_in q hq)
      · rw [List.mem_singleton.mp hq]
        refine List.mem_append_right _ (List.mem_map.mpr ⟨zv n, h.zero, ?_⟩)
        rw [vx_comm, vx_zero hr]
    · intro e he
      rcases List.mem_append.mp he with he | he
      · exact ⟨List.sublist_append_of_sublist_left (h.sums e he).1, (h.sums e he).2⟩
      · obtain ⟨q, hq, rfl⟩ := List.mem_map.mp he
        refine ⟨(h.sums q hq).1.append (List.Sublist.refl _), ?_⟩
        show vx q.1 r.2 = sumV n ((q.2 ++ [r]).map (·.2))
        rw [List.map_append, (h.sums q hq).2]
        exact (sumV_snoc n _ _).symm
    · intro v hv a ha
      have hv1 := h.orth v fun q hq => hv q (List.mem_append_left _ hq)
      rw [keys] at ha
      rcases List.mem_append.mp ha with ha | ha
      · exact hv1 a ha
      · obtain ⟨x, hx, rfl⟩ := List.mem_map.mp ha
        rw [dot_vx (by rw [kl x hx, hr]), hv1 x hx, hv r (List.mem_append_right _ (List.mem_singleton.mpr rfl))]
        rfl
    · obtain ⟨r0, rl, ro, r1⟩ := dual n (fun a => a ∈ tb.map (·.1)) h.zero (fun a b ha hb => h.closed a b ha hb) kl r.2 hr hc
      have rowK : ∀ v : Vec, v.length = n → (rows.all fun q => !dot q.2 (vx v r0)) = rows.all fun q => !dot q.2 v := fun v hv => by
        have : ∀ q ∈ rows, (!dot q.2 (vx v r0)) = !dot q.2 v := fun q hq => by
          rw [dot_vx_r (by rw [hv, rl]), ro _ (h.rows_in q hq), Bool.xor_false]
        rw [Bool.eq_iff_iff, List.all_eq_true, List.all_eq_true]
        exact ⟨fun g q hq => by rw [← this q hq]; exact g q hq, fun g q hq => by rw [this q hq]; exact g q hq⟩
      have half : (kerL n (rows ++ [r])).length = ((allV n).filter fun v => (rows.all fun q => !dot q.2 v) && dot r.2 v).length := by
        have e1 : kerL n (rows ++ [r]) = (allV n).filter fun v => (rows.all fun q => !dot q.2 v) && !dot r.2 v := by
          unfold kerL
          refine List.filter_congr fun v _ => ?_
          rw [List.all_append]
          simp
        rw [e1, ← count_shift rl]
        congr 1
        refine List.filter_congr fun v hv => ?_
        have vl := mem_allV.mp hv
        rw [rowK v vl, dot_vx_r (by rw [vl, rl]), r1]
        cases dot r.2 v <;> simp
      have split := filter_split (fun v => rows.all fun q => !dot q.2 v) (fun v => dot r.2 v) (allV n)
      have e2 : ((allV n).filter fun v => (rows.all fun q => !dot q.2 v) && !dot r.2 v).length = (kerL n (rows ++ [r])).length := by
        unfold kerL
        congr 1
        refine List.filter_congr fun v _ => ?_
        rw [List.all_append]
        simp
      rw [e2, ← half] at split
      have hk : (kerL n rows).length = (kerL n (rows ++ [r])).length + (kerL n (rows ++ [r])).length := split
      have hrk := h.rank
      rw [hk] at hrk
      rw [List.length_append, List.length_map, ← hrk, Nat.add_mul, Nat.mul_add]
theorem tb_all {n : Nat} : ∀ (more rows : List (RowV σ)) (tb : Tab σ), TbOk n rows tb → (∀ r ∈ more, r.2.length = n) → TbOk n (rows ++ more) (more.foldl stepT tb)
  | [], rows, tb, h, _ => by
    rw [List.append_nil]
    exact h
  | r :: more, rows, tb, h, hl => by
    have h1 := tb_step h (hl r List.mem_cons_self)
    have := tb_all more (rows ++ [r]) _ h1 fun q hq => hl q (List.mem_cons_of_mem _ hq)
    rw [List.append_assoc] at this
    exact this
theorem table_ok {n : Nat} {rows : List (RowV σ)} (hl : ∀ r ∈ rows, r.2.length = n) : TbOk n rows (tableT n rows) := by
  have := tb_all rows [] _ (tb_nil n) hl
  exact this
/-! ### what fits -/
def fitL (n : Nat) (rows : List (RowV σ × Bool)) : List Vec := (allV n).filter fun v => rows.all fun r => dot r.1.2 v == r.2
/-- the value as one place more -/
def augR (r : RowV σ × Bool) : RowV σ := (r.1.1, r.1.2 ++ [r.2])
theorem dot_snoc : ∀ {a v : Vec} {b c : Bool}, a.length = v.length → dot (a ++ [b]) (v ++ [c]) = xor (dot a v) (b && c)
  | [], [], b, c, _ => by simp [dot]
  | x :: xs, y :: ys, b, c, h => by
    show xor (x && y) (dot (xs ++ [b]) (ys ++ [c])) = xor (xor (x && y) (dot xs ys)) (b && c)
    rw [dot_snoc (Nat.succ.inj h), Bool.xor_assoc]
theorem fit_ker {n : Nat} {rows : List (RowV σ × Bool)} (h : fitL n rows ≠ []) : (fitL n rows).length = (kerL n (rows.map (·.1))).length := by
  obtain ⟨r0, hr0⟩ : ∃ r0, r0 ∈ fitL n rows := by
    cases e : fitL n rows with
    | nil => exact absurd e h
    | cons a l => exact ⟨a, by simp⟩
  obtain ⟨m0, f0⟩ := List.mem_filter.mp hr0
  have rl := mem_allV.mp m0
  unfold fitL kerL
  rw [← count_shift rl]
  congr 1
  refine List.filter_congr fun v hv => ?_
  have vl := mem_allV.mp hv
  rw [List.all_map, Bool.eq_iff_iff, List.all_eq_true, List.all_eq_true]
  have one : ∀ q ∈ rows, (dot q.1.2 (vx v r0) == q.2) = !dot q.1.2 v := fun q hq => by
    have := List.all_eq_true.mp f0 q hq
    have e : dot q.1.2 r0 = q.2 := by simpa using this
    rw [dot_vx_r (by rw [vl, rl]), e]
    cases dot q.1.2 v <;> cases q.2 <;> rfl
  exact ⟨fun g q hq => by show (!dot q.1.2 v) = true; rw [← one q hq]; exact g q hq, fun g q hq => by rw [one q hq]; exact g q hq⟩
/-- if none fits, some sum of rows comes to nothing while its values come to one -/
theorem torn_in {n : Nat} {rows : List (RowV σ × Bool)} {tb : Tab σ} (hl : ∀ r ∈ rows, r.1.2.length = n) (h : TbOk (n + 1) (rows.map augR) tb) (no : fitL n rows = []) : zv n ++ [true] ∈ tb.map (·.1) := by
  refine Classical.byContradiction fun hc => ?_
  obtain ⟨r, rl, ro, r1⟩ := dual (n + 1) (fun a => a ∈ tb.map (·.1)) h.zero (fun a b ha hb => h.closed a b ha hb) (fun a ha => by
    obtain ⟨e, he, rfl⟩ := List.mem_map.mp ha
    exact h.len e he) (zv n ++ [true]) (by simp [zv_len]) hc
  obtain ⟨v, c, rfl⟩ : ∃ v c, r = v ++ [c] := by
    rcases List.eq_nil_or_concat r with e | ⟨v, c, e⟩
    · rw [e] at rl
      simp at rl
    · exact ⟨v, c, by rw [e, List.concat_eq_append]⟩
  have vl : v.length = n := by simpa using rl
  rw [dot_snoc (by rw [zv_len, vl]), dot_zero] at r1
  have hc1 : c = true := by simpa using r1
  have : v ∈ fitL n rows := by
    refine List.mem_filter.mpr ⟨mem_allV.mpr vl, List.all_eq_true.mpr fun q hq => ?_⟩
    have z := ro (augR q).2 (h.rows_in _ (List.mem_map.mpr ⟨q, hq, rfl⟩))
    rw [show (augR q).2 = q.1.2 ++ [q.2] from rfl, dot_snoc (by rw [hl q hq, vl]), hc1] at z
    revert z
    cases dot q.1.2 v <;> cases q.2 <;> simp
  rw [no] at this
  cases this
/-! ### units -/
def unitV : Nat → Nat → Vec
  | 0, _ => []
  | n + 1, 0 => true :: zv n
  | n + 1, i + 1 => false :: unitV n i
theorem unit_len : ∀ (n i : Nat), (unitV n i).length = n
  | 0, _ => rfl
  | n + 1, 0 => by simp [unitV, zv_len]
  | n + 1, i + 1 => by simp [unitV, unit_len n i]
theorem dot_unit : ∀ {n i : Nat} {v : Vec}, v.length = n → dot (unitV n i) v = (v[i]?).getD false
  | 0, _, [], _ => by simp [unitV, dot]
  | 0, _, _ :: _, h => by simp at h
  | n + 1, _, [], h => by simp at h
  | n + 1, 0, b :: v, _ => by
    show xor (true && b) (dot (zv n) v) = _
    rw [dot_zero]
    simp
  | n + 1, i + 1, b :: v, h => by
    show xor (false && b) (dot (unitV n i) v) = _
    rw [dot_unit (Nat.succ.inj h)]
    simp
theorem units_ker {n : Nat} {rows : List (RowV σ)} {tb : Tab σ} (h : TbOk n rows tb) (hu : ∀ i, i < n → unitV n i ∈ tb.map (·.1)) : (kerL n rows).length ≤ 1 := by
  have one : ∀ v ∈ kerL n rows, v = zv n := fun v hv => by
    obtain ⟨m, f⟩ := List.mem_filter.mp hv
    have vl := mem_allV.mp m
    have o := h.orth v fun r hr => by
      have := List.all_eq_true.mp f r hr
      simpa using this
    apply List.ext_getElem?
    intro i
    by_cases hi : i < n
    · have := o _ (hu i hi)
      rw [dot_unit vl, List.getElem?_eq_getElem (by omega)] at this
      rw [List.getElem?_eq_getElem (by omega), List.getElem?_eq_getElem (by rw [zv_len]; omega)]
      have e : v[i]'(by omega) = false := by simpa using this
      rw [e]
      simp [zv]
    · rw [List.getElem?_eq_none (by omega), List.getElem?_eq_none (by rw [zv_len]; omega)]
  have nd : (kerL n rows).Nodup := (nodup_allV n).sublist List.filter_sublist
  match e : kerL n rows, one, nd with
  | [], _, _ => exact Nat.zero_le _
  | [_], _, _ => exact Nat.le_refl _
  | a :: b :: l, one, nd => 
    have h1 := one a (by simp)
    have h2 := one b (by simp)
    rw [h1, h2] at nd
    simp at nd
/-- a place that is lost: a vector that is 1 there, on which all rows are 0 -/
theorem unit_lost {n : Nat} {rows : List (RowV σ)} {tb : Tab σ} (h : TbOk n rows tb) {i : Nat} (hu : unitV n i ∉ tb.map (·.1)) : ∃ v : Vec, v.length = n ∧ (v[i]?).getD false = true ∧ ∀ r ∈ rows, dot r.2 v = false := by
  obtain ⟨v, vl, vo, v1⟩ := dual n (fun a => a ∈ tb.map (·.1)) h.zero (fun a b ha hb => h.closed a b ha hb) (fun a ha => by
    obtain ⟨e, he, rfl⟩ := List.mem_map.mp ha
    exact h.len e he) (unitV n i) (unit_len n i) hu
  rw [dot_unit vl] at v1
  exact ⟨v, vl, v1, fun r hr => vo _ (h.rows_in r hr)⟩
end
end Lk
set_option Elab.async false
set_option linter.all false
set_option maxHeartbeats 4000000
/-! Part W: vectors as ints. -/
namespace Lk
open PySem
def bN (b : Bool) : Nat := if b then 1 else 0
def toN : Vec → Nat
  | [] => 0
  | b :: bs => bN b + 2 * toN bs
theorem toN_zero : ∀ n, toN (zv n) = 0
  | 0 => rfl
  | n + 1 => by
    show bN false + 2 * toN (zv n) = 0
    rw [toN_zero n]
    rfl
theorem toN_lt : ∀ v : Vec, toN v < 2 ^ v.length
  | [] => by decide
  | b :: bs => by
    have := toN_lt bs
    show bN b + 2 * toN bs < 2 ^ (bs.length + 1)
    rw [Nat.pow_succ]
    cases b <;> simp only [bN] <;> simp <;> omega
theorem toN_inj : ∀ {a b : Vec}, a.length = b.length → toN a = toN b → a = b
  | [], [], _, _ => rfl
  | a :: as, b :: bs, h, e => by
    have e : bN a + 2 * toN as = bN b + 2 * toN bs := e
    have : a = b ∧ toN as = toN bs := by
      cases a <;> cases b <;> simp only [bN] at e <;> simp at e ⊢ <;> omega
    rw [this.1, toN_inj (Nat.succ.inj h) this.2]
theorem nat_xor_cons (a b : Bool) (x y : Nat) : (bN a + 2 * x) ^^^ (bN b + 2 * y) = bN (xor a b) + 2 * (x ^^^ y) := by
  apply Nat.eq_of_testBit_eq
  intro i
  cases i with
  | zero =>
    rw [Nat.testBit_xor]
    cases a <;> cases b <;> simp [bN, Nat.testBit_zero] <;> omega
  | succ i =>
    rw [Nat.testBit_xor, Nat.testBit_succ, Nat.testBit_succ, Nat.testBit_succ]
    have h1 : ∀ (c : Bool) (z : Nat), (bN c + 2 * z) / 2 = z := fun c z => by cases c <;> simp only [bN] <;> simp <;> omega
    rw [h1, h1, h1, Nat.testBit_xor]
theorem toN_vx : ∀ {a b : Vec}, a.length = b.length → toN (vx a b) = toN a ^^^ toN b
  | [], [], _ => by simp [vx, toN]
  | a :: as, b :: bs, h => by
    show bN (xor a b) + 2 * toN (vx as bs) = (bN a + 2 * toN as) ^^^ (bN b + 2 * toN bs)
    rw [nat_xor_cons, toN_vx (Nat.succ.inj h)]
theorem toN_snoc : ∀ (v : Vec) (b : Bool), toN (v ++ [b]) = toN v + bN b * 2 ^ v.length
  | [], b => by simp [toN]
  | a :: as, b => by
    show bN a + 2 * toN (as ++ [b]) = bN a + 2 * toN as + bN b * 2 ^ (as.length + 1)
    rw [toN_snoc as b, Nat.pow_succ, Nat.mul_add, Nat.mul_left_comm, Nat.mul_comm 2 (2 ^ as.length)]
    omega
theorem toN_unit : ∀ {n i : Nat}, i < n → toN (unitV n i) = 2 ^ i
  | 0, _, h => by omega
  | n + 1, 0, _ => by
    show bN true + 2 * toN (zv n) = 1
    rw [toN_zero]
    rfl
  | n + 1, i + 1, h => by
    show bN false + 2 * toN (unitV n i) = 2 ^ (i + 1)
    rw [toN_unit (by omega), Nat.pow_succ]
    simp [bN]
    omega
theorem xor_codes {a b : Vec} (h : a.length = b.length) : Builtin.bitXor (toN a : Int) (toN b : Int) = (toN (vx a b) : Int) := by
  rw [Bits.bitXor_pp (by omega) (by omega), toN_vx h]
  rfl
/-! ### the code of a piece -/
def idxS : List Str → Str → Nat
  | [], _ => 0
  | y :: ys, b => if b = y then 0 else idxS ys b + 1
theorem idxS_at : ∀ {ps : List Str} {b : Str}, b ∈ ps → ps[idxS ps b]? = some b
  | y :: ys, b, h => by
    unfold idxS
    by_cases e : b = y
    · rw [if_pos e, e]
      rfl
    · rw [if_neg e]
      rcases List.mem_cons.mp h with h | h
      · exact absurd h e
      · rw [List.getElem?_cons_succ]
        exact idxS_at h
def vecP (ps p : List Str) : Vec := ps.map fun x => decide (x ∈ p)
theorem vecP_len (ps p : List Str) : (vecP ps p).length = ps.length := List.length_map ..
theorem sum_dbl : ∀ xs : List Int, (xs.map fun x => 2 * x).sum = 2 * xs.sum
  | [] => rfl
  | x :: xs => by
    rw [List.map_cons, List.sum_cons, List.sum_cons, sum_dbl xs, Int.mul_add]
theorem code_sum : ∀ {ps : List Str} (Q : Str → Bool), ps.Nodup → ((ps.filter Q).map fun b => ((2 ^ idxS ps b : Nat) : Int)).sum = (toN (ps.map Q) : Int)
  | [], _, _ => rfl
  | y :: ys, Q, nd => by
    have n2 := List.nodup_cons.mp nd
    have ih := code_sum (ps := ys) Q n2.2
    have e : ((ys.filter Q).map fun b => ((2 ^ idxS (y :: ys) b : Nat) : Int)) = (((ys.filter Q).map fun b => ((2 ^ idxS ys b : Nat) : Int)).map fun x => 2 * x) := by
      rw [List.map_map]
      refine List.map_congr_left fun b hb => ?_
      have : b ≠ y := fun q => n2.1 (q ▸ (List.mem_filter.mp hb).1)
      show ((2 ^ idxS (y :: ys) b : Nat) : Int) = 2 * ((2 ^ idxS ys b : Nat) : Int)
      have h : idxS (y :: ys) b = idxS ys b + 1 := if_neg this
      rw [h, Nat.pow_succ]
      omega
    have t : toN ((y :: ys).map Q) = bN (Q y) + 2 * toN (ys.map Q) := rfl
    cases hq : Q y with
    | true =>
      rw [List.filter_cons_of_pos hq, List.map_cons, List.sum_cons, e, sum_dbl, ih, t, hq]
      have : idxS (y :: ys) y = 0 := if_pos rfl
      rw [this]
      show (1 : Int) + 2 * (toN (ys.map Q) : Int) = ((bN true + 2 * toN (ys.map Q) : Nat) : Int)
      simp [bN]
    | false =>
      rw [List.filter_cons_of_neg (by simp [hq]), e, sum_dbl, ih, t, hq]
      simp [bN]
end Lk
set_option Elab.async false
set_option linter.all false
set_option maxRecDepth 100000
set_option maxHeartbeats 4000000
set_option pp.maxSteps 1200
set_option pp.deepTerms false
namespace K6
open PySem PySem.Spec PyProof.Rows L2 Lk
section
variable {P : Program} {w : World} {K : PySem.W.Frag} {mg : Str → Option Value} {base : Heap} {f : Addr} {fd : FuncData}
/-- what the attributes of a shelf tell, once they are there -/
structure ShF (H : Hp) (C : Addr) (L : Lore) (fs : List (Str × V)) : Prop where
  parts : ∃ pa, fs.lookup ("parts" : Str) = some (V.ref pa) ∧ TupX H pa (L.parts.map V.str)
  circle : ∃ c, fs.lookup ("circle" : Str) = some (V.ref c) ∧ CircAt H C c (L.kps.map (·.1))
  pieces : ∃ q, fs.lookup ("pieces" : Str) = some (V.ref q) ∧ PcsAt H q L.kps
theorem CircAt.same {H H' : Hp} {C c : Addr} {zs : List Str} (h : CircAt H C c zs) (s : Same H H') : CircAt H' C c zs := by
  obtain ⟨dx, nm, e, t⟩ := h
  exact ⟨dx, nm, s _ _ e, t.same s⟩
theorem PcsAt.same {H H' : Hp} {q : Addr} {ks : List KP} (h : PcsAt H q ks) (s : Same H H') : PcsAt H' q ks := by
  obtain ⟨rows, e, p⟩ := h
  exact ⟨rows, s _ _ e, Paired.mapP p fun v k ⟨r, ts, e1, e2, e3⟩ => ⟨r, ts, e1, s _ _ e2, e3.tups (.of s)⟩⟩
theorem ShF.same {H H' : Hp} {C : Addr} {L : Lore} {fs : List (Str × V)} (h : ShF H C L fs) (s : Same H H') : ShF H' C L fs := by
  obtain ⟨⟨pa, a1, a2⟩, ⟨c, b1, b2⟩, ⟨q, c1, c2⟩⟩ := h
  exact ⟨⟨pa, a1, a2.same s⟩, ⟨c, b1, b2.same s⟩, ⟨q, c1, c2.same s⟩⟩
theorem paired_get {α β : Type} {R : α → β → Prop} : ∀ {xs : List α} {ys : List β} {i : Nat} {y : β}, Paired R xs ys → ys[i]? = some y → ∃ x, xs[i]? = some x ∧ R x y
  | _, _, _, _, .nil, h => by simp at h
  | _, _, 0, y, .cons (a := a) r t, h => by
    simp at h
    subst h
    exact ⟨a, rfl, r⟩
  | _, _, i + 1, y, .cons r t, h => by
    obtain ⟨x, h1, h2⟩ := paired_get t (by simpa using h)
    exact ⟨x, by simpa using h1, h2⟩
theorem atN {xs : List V} {i : Nat} {v : V} (h : xs[i]? = some v) : atI xs (i : Int) = some v := atI_nat h
end
end K6
set_option Elab.async false
set_option linter.all false
set_option maxRecDepth 100000
set_option maxHeartbeats 8000000
/-! Part M: dict comprehensions whose keys are tuples of ints and texts. -/
namespace Lk
open PySem PySem.Spec PyProof.Rows L2
/-- what such a comprehension asks, over what is walked -/
def tDcT (wi : TI) (g : TG) (tt : TT) (tk tv : TE) (vs : List Nat) : TE := fun σ H Q => wi σ H fun J H1 => ∀ D, H1 D = none → ∃ W : Nat → Nat → Hp → Prop, (∃ m, W 0 m (upd H1 D (.dT []))) ∧ ∀ i m H, W i m H → (J.stop i H ∧ Q (.ref D) H) ∨
  (J.go i H ∧ ∃ N : Hp → Prop, (∀ H', N H' → ∃ m', m' < m ∧ W (i + 1) m' H') ∧ ∀ x H', J.yld i H x H' → g x (wipe σ vs) H' fun σ2 H2 => wipe σ2 vs = wipe σ vs ∧ tt σ2 H2 fun b H3 => if b = true then tk σ2 H3 fun y H4 => tv σ2 H4 fun z H5 =>
    ∃ kvs k c, y = .ref c ∧ H5 D = some (.dT kvs) ∧ H5 c = some (.tup (k.map kV)) ∧ kvs.length < sizeLine ∧ N (upd H5 D (.dT (putK kvs k z))) else N H3)
/-- one pair put in -/
theorem put_dT {X : Cx} {pins : List (Addr × Obj)} {σ : L2.St} {H : Hp} {s : Shared} {E : Value → Shared → Prop} {D c : Addr} {kvs : List (List Key × V)} {k : List Key} {v : V} {r : Value} {Q : Unit → Shared → Prop} (room : X.A.units < cLine) (I : Inv X pins σ H s) (eD : H D = some (.dT kvs))
    (ec : H c = some (.tup (k.map kV))) (few : kvs.length < sizeLine) (rv : RelV v r) (go : ∀ s', Inv X pins σ (upd H D (.dT (putK kvs k v))) s' → Q () s') : wpAny (model X.prog X.w) X.A (dictSet D (.ref c) r) Q E s := by
  obtain ⟨z, nsys, xs, rel, dd⟩ := dt_of I.hok eD
  have few2 : xs.length ≤ sizeLine := by rw [← Paired.length rel] <;> exact z
  have few3 : (putK kvs k v).length ≤ sizeLine := by have := length_putK kvs k v; omega
  refine wpAny_dictSet_heap (hsz := few2) room (key_of I.hok ec) dd fun h' dd' but => go _ ?_
  obtain ⟨o, es, ep, at_, q2, q3, q4, _, q5⟩ := dd'
  refine d_write I (by rw [eD]; exact True.intro) but ⟨o, at_⟩ ⟨few3, nsys, _, (rel.put k ec rv).keeps fun b ys eb => ?_, o, es, ep, at_, q2, q3, q4, q5⟩
  rw [upd_ne (ne_of eb eD (fun z => nomatch z))] <;> exact eb
/-- the comprehension's block, run -/
theorem core_dT {X : Cx} {pins : List (Addr × Obj)} {s : Shared} {σ : L2.St} {H : Hp} {Q : VK} {ek ev tg it : Expr} {ifs : List Expr} {sc : Scope} {own : List (Str × Nat)} {pos pos2 : Pos} {wi : TI} {g : TG} {tt : TT} {tk tv : TE} {use : Option (Value → Sem Unit)} {Qf : Value → Shared → Prop}
    (calm : X.calm = true) (nd : X.N.Nodup) (room : X.A.units < cLine) (I : Inv X pins σ H s) (pi : PI X tg it wi) (bo : BlkOk X.N X.env.scope sc own)
    (pg : ∀ s H C cl fp, PG (X.blk s H sc (compEnvC sc cl C X.env) fp) tg g) (pt : ∀ s H C cl fp, PTs (X.blk s H sc (compEnvC sc cl C X.env) fp) ifs tt) (pk : ∀ s H C cl fp, PE (X.blk s H sc (compEnvC sc cl C X.env) fp) ek tk) (pe : ∀ s H C cl fp, PE (X.blk s H sc (compEnvC sc cl C X.env) fp) ev tv)
    (fold : ∀ x, foldedSetIterable it X.env x = pure x) (want : tDcT wi g tt tk tv (own.map (·.2)) σ H Q) (leave : ∀ D C s' m H', Inv X pins σ H' s' → Q (.ref D) H' → s'.heap.Ns C m → FpOk X pins H' C → compPost (model X.prog X.w) X.A X.xe use Qf (.ref D) C (.ok .next) s') :
    wpAny (model X.prog X.w) X.A (comprehension (.DictComp ek ev [⟨tg, it, ifs, 0⟩] sc pos) sc X.env pos2 newDict false (eval it X.env) use) Qf X.xe s := by
  have clo : ∀ y ∈ sc.names, y.2 = .free → ∃ c, X.env.cells.lookup y.1 = some c := fun y hy e => (bo.free y hy e).elim (fun q => I.ok.has _ (.inl q)) fun q => I.ok.has _ (.inr q)
  refine wpAny_comprehension_free (use := use) rfl fold (closure_ok clo) bo.kind (fun y hy e => by rw [bo.uniq y hy, e]) (thn (pi.run pins s σ H _ I want) fun _ s1 go1 => thn go1 fun _ s2 go2 => ?_)
  obtain ⟨itr, fp, tn, J, H2, rfl, I2, T, at2, free2, q⟩ := go2
  refine wpAny_newObj_type (newEnv_comp ?_)
  have nD : H2 s2.heap.objs.size = none := I2.hok.fresh (Nat.le_refl _)
  obtain ⟨W, ⟨m0, w0⟩, turn⟩ := q _ nD
  have big2 : sysModules < s2.heap.objs.size := I2.big
  generalize eD : s2.heap.objs.size = D at nD w0 turn ⊢
  have I3 : Inv X pins σ (upd H2 D (.dT [])) { s2 with heap := s2.heap.push { cls := .type "dict", data := .dict #[] } } :=
    I2.laid (t' := s2.toks) (fun b o e => Heap.get?_push_of_some _ e) (Nat.le_of_eq eD) (by rw [← eD]; exact dt_empty s2.heap big2)
  have old : ∀ b ∈ fp, b < s2.heap.objs.size := fun b hb => by
    obtain ⟨o, e, _⟩ := T.obj _ _ at2 b hb
    exact Heap.lt_size e
  have at3 : tn 0 (s2.heap.push { cls := .type "dict", data := .dict #[] }) := T.keep _ _ _ at2 fun b _ o e => Heap.get?_push_of_some _ e
  have sz3 : (s2.heap.push { cls := .type "dict", data := .dict #[] }).objs.size = s2.heap.objs.size + 1 := Heap.size_push ..
  generalize e3 : ({ s2 with heap := s2.heap.push { cls := .type "dict", data := .dict #[] } } : Shared) = s3 at I3 ⊢
  have h3 : s3.heap = s2.heap.push { cls := .type "dict", data := .dict #[] } := by rw [← e3]
  rw [← h3] at at3 sz3
  have free3 : ∀ b ∈ fp, FpOk X pins (upd H2 D (.dT [])) b ∧ b < s3.heap.objs.size := fun b hb =>
    ⟨⟨by rw [upd_ne (by rw [← eD]; exact Nat.ne_of_lt (old b hb))]; exact (free2 b hb).1, (free2 b hb).2⟩, by rw [sz3]; exact Nat.lt_succ_of_lt (old b hb)⟩
  have I4 := block_start I3 bo nd free3
  generalize eC : cellsFrom (s3.heap.objs.size + 1) sc.names (cloFrom X.env.cells sc.names []) = cl at I4 ⊢
  have g3 := pg s3 (upd H2 D (.dT [])) s3.heap.objs.size cl fp; have t3 := pt s3 (upd H2 D (.dT [])) s3.heap.objs.size cl fp
  have k3 := pk s3 (upd H2 D (.dT [])) s3.heap.objs.size cl fp; have v3 := pe s3 (upd H2 D (.dT [])) s3.heap.objs.size cl fp
  have out3 : ∀ b ∈ fp, upd H2 D (.dT []) b = none := fun b hb => (free3 b hb).1.1
  show codeAny _ _ (.compStart (.DictComp ek ev [⟨tg, it, ifs, 0⟩] sc pos) 0 (.ref itr) (.ref D) (compEnvC sc cl s3.heap.objs.size X.env)) (compPost (model X.prog X.w) X.A X.xe use Qf (.ref D) s3.heap.objs.size) { s3 with heap := pushCells (s3.heap.push { cls := .type "dict", data := .dict #[] }) sc.names }
  generalize eE : compEnvC sc cl s3.heap.objs.size X.env = ce at I4 g3 t3 k3 v3 ⊢
  have loc : ce.locals = s3.heap.objs.size := by rw [← eE] <;> rfl
  generalize eH : upd H2 D (.dT []) = H3 at I3 I4 g3 t3 k3 v3 w0 out3 free3
  generalize e4 : ({ s3 with heap := pushCells (s3.heap.push { cls := .type "dict", data := .dict #[] }) sc.names } : Shared) = s4 at I4 ⊢
  have at4 : tn 0 s4.heap := T.keep _ _ _ at3 fun b _ o e => by rw [← e4]; exact pushCells_keeps _ _ _ _ (Heap.get?_push_of_some _ e)
  have still : ∀ {σ' : L2.St} {H' : Hp} {s' : Shared}, Inv (X.blk s3 H3 sc ce fp) [] σ' H' s' → (∀ b ∈ fp, H' b = none) → ∀ b ∈ fp, FpOk (X.blk s3 H3 sc ce fp) [] H' b := fun {σ' H' s'} J' n b hb =>
    ⟨n b hb, (J'.ok.exf b hb).1, J'.ok.exfs b hb, .inl hb, fun x c e => (J'.ok.exf b hb).2 x c e, fun p hp => absurd (show p ∈ ([] : List (Addr × Obj)) ++ [] from hp) (by simp)⟩
  suffices loop : codeAny (model X.prog X.w) X.A (.compLoop (.DictComp ek ev [⟨tg, it, ifs, 0⟩] sc pos) 0 (.ref itr) (.ref D) ce) (compPost (model X.prog X.w) X.A X.xe use Qf (.ref D) s3.heap.objs.size) s4 from codeAny_compStart_dict loop (T.self X.A 0 _ _ _ at4 loop)
  refine compLoop_anyD (fun n s' => ∃ i H', Inv (X.blk s3 H3 sc ce fp) [] (wipe σ (own.map (·.2))) H' s' ∧ tn i s'.heap ∧ (∀ b ∈ fp, H' b = none) ∧ W i n H') (fun n s5 hI => ?_) m0 ⟨0, H3, I4, at4, out3, w0⟩
  obtain ⟨i, H5, I5, at5, out5, w5⟩ := hI
  rcases turn i n H5 w5 with ⟨stop, fin⟩ | ⟨go, N, less, step⟩
  · refine thnF (T.done (X.blk s3 H3 sc ce fp) rfl rfl rfl calm i [] s5 _ H5 (fun _ _ => False) I5 (still I5 out5) at5 stop) fun r s6 ⟨er, I6⟩ => ?_
    subst er
    have I7 : Inv X pins σ H5 s6 := I3.call' (ch := fp) I6.os I6.base I6.hok I6.bare fun b hb => let z := (free3 b hb).1.2; ⟨z.2.2.1, z.1, z.2.2.2.1, z.2.2.2.2⟩
    obtain ⟨m, ns, _⟩ := I6.loc
    have ns2 : s6.heap.Ns ce.locals m := ns
    have nL : H5 ce.locals = none := I6.free
    rw [loc] at ns2 nL
    exact leave D s3.heap.objs.size s6 m H5 I7 fin ns2 (I3.fpOk (Nat.le_refl _) nL)
  · refine thnF (T.item (X.blk s3 H3 sc ce fp) rfl rfl rfl calm i [] s5 _ H5 (fun _ _ => False) I5 (still I5 out5) at5 go) fun r s6 ⟨u, er, go6⟩ => ?_
    subst er
    refine thnF go6 fun _ s7 ⟨x, H7, I7, r7, y7, at7, out7⟩ => ?_
    refine thnF (g3.run _ s7 _ H7 x u _ (I7.pinned (still I7 out7) (T.obj _ _ at7)) r7 (step x H7 y7)) fun _ s8 ⟨σ8, H8, I8, wi8, q8⟩ => thnF (t3.run _ s8 σ8 H8 _ I8 q8) fun b s9 ⟨H9, I9, q9⟩ => ?_
    have next : ∀ {s' : Shared} {H' : Hp}, Inv (X.blk s3 H3 sc ce fp) ([] ++ pinsAt fp s7.heap) σ8 H' s' → N H' → ∃ m, m < n ∧ ∃ i H', Inv (X.blk s3 H3 sc ce fp) [] (wipe σ (own.map (·.2))) H' s' ∧ tn i s'.heap ∧ (∀ b ∈ fp, H' b = none) ∧ W i m H' := fun {s' H'} J' nx => by
      obtain ⟨m', lt, w'⟩ := less H' nx
      have pinned : ∀ b ∈ fp, ∀ o, s7.heap.get? b = some o → s'.heap.get? b = some o ∧ H' b = none := fun b hb o e => let z := J'.pin (b, o) (List.mem_append_right _ (List.mem_append_right _ (mem_pinsAt hb e))); ⟨z.1, z.2.1⟩
      refine ⟨m', lt, i + 1, H', (J'.unpinned (pins := [])).weak (by rw [← wi8, wipe_length]) (fun j v e => ?_), T.keep _ _ _ at7 fun b hb o e => (pinned b hb o e).1, fun b hb => ?_, w'⟩
      · rw [← wi8] at e; exact (wipe_some e).1
      · obtain ⟨o, e, _⟩ := T.obj _ _ at7 b hb; exact (pinned b hb o e).2
    cases b with
    | false => simp only [Bool.false_eq_true, if_false] at q9 ⊢; exact next I9 q9
    | true =>
      simp only [if_true] at q9 ⊢
      refine thnF (k3.run _ s9 σ8 H9 _ I9 q9) fun z1 sA ⟨y, HA, IA, rA, qA⟩ => thnF (v3.run _ sA σ8 HA _ IA qA) fun z2 sB ⟨z, HB, IB, rB, kvs, k, c, ey, eD', ec, few, nx⟩ => ?_
      subst ey
      cases (show z1 = Value.ref c from rA)
      exact put_dT (X := X.blk s3 H3 sc ce fp) room IB eD' ec few rB fun sC IC => next IC nx
/-- the comprehension as a value -/
theorem pe_dcT {X : Cx} {ek ev tg it : Expr} {ifs : List Expr} {sc : Scope} {own : List (Str × Nat)} {pos : Pos} {wi : TI} {g : TG} {tt : TT} {tk tv : TE} (calm : X.calm = true) (nd : X.N.Nodup) (room : X.A.units < cLine) (pi : PI X tg it wi) (bo : BlkOk X.N X.env.scope sc own)
    (pg : ∀ s H C cl fp, PG (X.blk s H sc (compEnvC sc cl C X.env) fp) tg g) (pt : ∀ s H C cl fp, PTs (X.blk s H sc (compEnvC sc cl C X.env) fp) ifs tt) (pk : ∀ s H C cl fp, PE (X.blk s H sc (compEnvC sc cl C X.env) fp) ek tk) (pe : ∀ s H C cl fp, PE (X.blk s H sc (compEnvC sc cl C X.env) fp) ev tv)
    (fold : ∀ x, foldedSetIterable it X.env x = pure x := by intro _; rfl) : PE X (.DictComp ek ev [⟨tg, it, ifs, 0⟩] sc pos) (tDcT wi g tt tk tv (own.map (·.2))) := by
  refine ⟨fun pins s σ H Q I want => ?_⟩
  rw [arm_eval_DictComp] <;> refine core_dT calm nd room I pi bo pg pt pk pe fold want fun D C s' m H' I' q ns ⟨f0, f1, f2, f3, f4, f5⟩ => ⟨m, ns, fun h'' but => ?_⟩
  exact ⟨.ref D, H', I'.turned (t' := s'.toks) (fun b o nb e => (but.2 b nb).trans e) f0 f1 f3 f4 f5, rfl, q⟩
end Lk
set_option Elab.async false
set_option linter.all false
set_option maxRecDepth 100000
set_option maxHeartbeats 4000000
set_option pp.maxSteps 1200
set_option pp.deepTerms false
namespace K6
open PySem PySem.Spec PyProof.Rows L2 Lk
section
variable {P : Program} {w : World} {K : PySem.W.Frag} {mg : Str → Option Value} {base : Heap} {f : Addr} {fd : FuncData}
theorem _root_.Lk.KeepB.of {D : Addr} {H H' : Hp} (s : Same H H') : KeepB D H H' := fun b o _ e => s b o e
theorem _root_.Lk.KeepB.trans {D : Addr} {H H1 H2 : Hp} (x : KeepB D H H1) (y : KeepB D H1 H2) : KeepB D H H2 := fun b o n e => y b o n (x b o n e)
theorem _root_.Lk.KeepB.upd {D : Addr} {H : Hp} {o : HO} : KeepB D H (upd H D o) := fun b u n e => by rw [upd_ne n]; exact e
def RelK (H : Hp) (v : V) (k : KP) : Prop := ∃ r ts, v = V.ref r ∧ H r = some (.tup ts) ∧ Pieces H ts k.2
theorem RelK.keep (H H' : Hp) (v : V) (k : KP) (kp : Keep H H') (h : RelK H v k) : RelK H' v k := by
  obtain ⟨r, ts, e, h, p⟩ := h
  exact ⟨r, ts, e, kp _ _ h (fun xs z => by cases z), Paired.mapP p fun v p ⟨t, e, h⟩ => ⟨t, e, kp _ _ h fun xs z => by cases z⟩⟩
def RelW (D : Addr) (H : Hp) (v : V) (ws : List Str) : Prop := ∃ t, v = V.ref t ∧ H t = some (.lst (ws.map V.str)) ∧ t ≠ D
theorem RelW.keep {D : Addr} (H H' : Hp) (v : V) (ws : List Str) (k : KeepB D H H') (h : RelW D H v ws) : RelW D H' v ws := by
  obtain ⟨t, e, h, n⟩ := h
  exact ⟨t, e, k _ _ n h, n⟩
def pieceOf (L : Lore) (s : Spot) : List Str := (((L.kps.find? fun k => decide (k.1 = s.1)).map (·.2)).getD []).getD s.2 []
/-- the codes of a shelf's pieces, by their spots -/
def keyS (s : Spot) : List L2.Key := [.inr s.1, .inl (s.2 : Int)]
def codeS (L : Lore) (s : Spot) : Vec := vecP L.parts (pieceOf L s)
def CodesAt (H : Hp) (L : Lore) (fs : List (Str × V)) : Prop := ∃ D kvs, fs.lookup ("codes" : Str) = some (V.ref D) ∧ H D = some (.dT kvs) ∧ ∀ s ∈ spotsOf L.kps, valV kvs (keyS s) = some (.int ((toN (codeS L s) : Nat) : Int))
/-- the spots of a shelf -/
def ShS (H : Hp) (L : Lore) (fs : List (Str × V)) : Prop := ∃ p ts, fs.lookup ("spots" : Str) = some (V.ref p) ∧ H p = some (.tup ts) ∧ Paired (RelS H) ts (spotsOf L.kps) ∧ CodesAt H L fs
end
end K6
set_option Elab.async false
set_option linter.all false
set_option maxRecDepth 100000
set_option maxHeartbeats 4000000
set_option pp.maxSteps 1200
set_option pp.deepTerms false
namespace K6
open PySem PySem.Spec PyProof.Rows L2 Lk
section
variable {P : Program} {w : World} {K : PySem.W.Frag} {mg : Str → Option Value} {base : Heap} {f : Addr} {fd : FuncData}
abbrev sCircLen : Stmt := inClass (top 17) 1
/-- an own method of that class, found and kept -/
structure MethC (K : PySem.W.Frag) (C : Addr) (m : Str) (f : Addr) : Prop where
  at_ : PySem.W.findIn K (.ref C) m = some (some (.ref f))
  fn : PySem.W.isFn K (.ref f) = true
/-- a shelf, as it stands -/
def ShAt (H : Hp) (C CS x : Addr) (L : Lore) : Prop := ∃ dx fs, H x = some (.ins CS dx fs) ∧ ShF H C L fs ∧ fs.lookup ("text" : Str) = some (V.str (textL L)) ∧ ShS H L fs
end
end K6
set_option Elab.async false
set_option linter.all false
set_option maxRecDepth 100000
set_option maxHeartbeats 4000000
set_option pp.maxSteps 1200
set_option pp.deepTerms false
namespace K6
open PySem PySem.Spec PyProof.Rows L2 Lk
section
variable {P : Program} {w : World} {K : PySem.W.Frag} {mg : Str → Option Value} {base : Heap} {f : Addr} {fd : FuncData}
theorem ShAt.same {H H' : Hp} {C CS x : Addr} {L : Lore} (h : ShAt H C CS x L) (s : Same H H') : ShAt H' C CS x L := by
  obtain ⟨dx, fs, e, sf, tx, p, ts, lp, ep, pr, D, kvs, lD, eD, vD⟩ := h
  exact ⟨dx, fs, s _ _ e, sf.same s, tx, p, ts, lp, s _ _ ep, Paired.mapP pr fun v q ⟨t, e, h⟩ => ⟨t, e, s _ _ h⟩, D, kvs, lD, s _ _ eD, vD⟩
end
end K6
set_option Elab.async false
set_option linter.all false
set_option maxRecDepth 100000
set_option maxHeartbeats 4000000
set_option pp.maxSteps 1200
set_option pp.deepTerms false
namespace K6
open PySem PySem.Spec PyProof.Rows L2 Lk
section
variable {P : Program} {w : World} {K : PySem.W.Frag} {mg : Str → Option Value} {base : Heap} {f : Addr} {fd : FuncData}
abbrev sIsInt : Stmt := top 9
abbrev sIsRow : Stmt := top 12
def spIsInt : Sp := fun vs H Q _ => ∃ i : Int, vs = [.int i] ∧ Q (.bl true) H
theorem scIsInt : FnScope ["value"] ["value"] (defScope sIsInt) := ⟨rfl, rfl, rfl, by decide +kernel, rfl, by decide +kernel, by decide +kernel⟩
theorem ok_isInt (F : Fun K "is_integer" "is_integer" sIsInt f fd) (T : Bl mg) (hB : mg "bool" = none) : FnOk P w K mg base CX0 1 f fd ["value"] spIsInt := by
  refine F.ok scIsInt (fun vs H Q E h => ?_) (fun cdv A outer s H vs Q E hr h => ?_)
  · obtain ⟨i, rfl, _⟩ := h
    rfl
  · obtain ⟨i, rfl, k⟩ := h
    refine ⟨_, pss_one (ps_ret (pe_and (pe_callB call_isi (by rfl) T.isin boot_isinstance (pa_cons (pv 0) (pa_cons (pe_bltn (v := .ty "int") (by rfl) T.int rfl rfl) pa_nil)))
      (pe_one (pe_not (pe_callB call_isi (by rfl) T.isin boot_isinstance (pa_cons (pv 0) (pa_cons (pe_bltn (v := .ty "bool") (by rfl) hB rfl rfl) pa_nil))))))), ?_⟩
    refine ⟨_, rfl, _, _, _, _, true, rfl, .ty _, .base (.int _), by rfl, _, rfl, iteT ?_⟩
    exact ⟨_, rfl, _, _, _, _, false, rfl, .ty _, .base (.int _), by rfl, _, rfl, k⟩
def spIsRow : Sp := fun vs H Q _ => ∃ (t : Addr) (xs : List V) (n : Int), vs = [.ref t, .int n] ∧ H t = some (.tup xs) ∧ Q (.bl (decide (V.int xs.length = V.int n))) H
theorem scIsRow : FnScope ["value", "many"] ["value", "many"] (defScope sIsRow) := ⟨rfl, rfl, rfl, by decide +kernel, rfl, by decide +kernel, by decide +kernel⟩
theorem ok_isRow (F : Fun K "is_row" "is_row" sIsRow f fd) (T : Bl mg) (Cc : Cn mg) : FnOk P w K mg base CX0 1 f fd ["value", "many"] spIsRow := by
  refine F.ok scIsRow (fun vs H Q E h => ?_) (fun cdv A outer s H vs Q E hr h => ?_)
  · obtain ⟨t, xs, n, rfl, _⟩ := h
    rfl
  · obtain ⟨t, xs, n, rfl, ht, k⟩ := h
    refine ⟨_, pss_one (ps_ret (pe_and (pe_callB call_isi (by rfl) T.isin boot_isinstance (pa_cons (pv 0) (pa_cons (pe_bltn (v := .ty "tuple") (by rfl) Cc.tuple rfl rfl) pa_nil)))
      (pe_one (pe_cmpR op_eq (pe_callB call_len_seq (by rfl) T.len PySem.boot_len (pa_cons (pv 0) pa_nil)) (pv 1) (nomark _))))), ?_⟩
    refine ⟨_, rfl, _, _, _, _, true, rfl, .ty _, .base (.tup ht), by rfl, _, rfl, iteT ?_⟩
    exact ⟨_, rfl, t, _, rfl, .inr (SqT.of ht), _, rfl, rfl, k⟩
end
end K6
set_option Elab.async false
set_option linter.all false
set_option maxHeartbeats 4000000
/-! Part Y: vectors as texts of 0 and 1. -/
namespace Lk
open PySem
def bC (b : Bool) : Nat := if b then 49 else 48
def stv (v : Vec) : Str := ⟨(v.map bC).toArray⟩
theorem tl_stv (v : Vec) : TL.tl (stv v) = v.map bC := TL.tl_mk _
theorem bC_inj {a b : Bool} (h : bC a = bC b) : a = b := by
  cases a <;> cases b <;> simp [bC] at h ⊢
theorem map_bC_inj : ∀ {a b : Vec}, a.map bC = b.map bC → a = b
  | [], [], _ => rfl
  | [], _ :: _, h => by cases h
  | _ :: _, [], h => by cases h
  | a :: as, b :: bs, h => by
    obtain ⟨h1, h2⟩ := List.cons.inj (show bC a :: as.map bC = bC b :: bs.map bC from h)
    rw [bC_inj h1, map_bC_inj h2]
theorem stv_inj {a b : Vec} (h : stv a = stv b) : a = b := by
  have := congrArg TL.tl h
  rw [tl_stv, tl_stv] at this
  exact map_bC_inj this
theorem stv_dec (a b : Vec) : decide (stv a = stv b) = decide (a = b) := by
  by_cases h : a = b
  · rw [h]
    simp
  · have : ¬ stv a = stv b := fun e => h (stv_inj e)
    simp [h, this]
theorem stv_len (v : Vec) : (stv v).length = v.length := by
  show (v.map bC).toArray.size = _
  simp
theorem stv_app (a b : Vec) : stv (a ++ b) = stv a ++ stv b := TL.ext_tl (by rw [TL.tl_append, tl_stv, tl_stv, tl_stv, List.map_append])
theorem stv_f : stv [false] = "0" := by decide +kernel
theorem stv_t : stv [true] = "1" := by decide +kernel
theorem stv_nil : stv [] = "" := by decide +kernel
/-- a text of 0 and 1 is one -/
theorem stv_of {z : Str} (h : ∀ c ∈ TL.tl z, c = 48 ∨ c = 49) : ∃ v, z = stv v := by
  refine ⟨(TL.tl z).map fun c => decide (c = 49), TL.ext_tl ?_⟩
  rw [tl_stv, List.map_map]
  symm
  have : ∀ c ∈ TL.tl z, (bC ∘ fun c => decide (c = 49)) c = id c := fun c hc => by
    rcases h c hc with rfl | rfl <;> rfl
  rw [List.map_congr_left this, List.map_id]
theorem stv_bits (v : Vec) : ∀ c ∈ TL.tl (stv v), c = 48 ∨ c = 49 := fun c hc => by
  rw [tl_stv] at hc
  obtain ⟨b, _, rfl⟩ := List.mem_map.mp hc
  cases b <;> simp [bC]
/-! ### all of them, in the program's order -/
def vL : Nat → List Vec
  | 0 => [[]]
  | n + 1 => (vL n).flatMap fun r => [r ++ [false], r ++ [true]]
theorem vL_len : ∀ n, (vL n).length = 2 ^ n
  | 0 => rfl
  | n + 1 => by
    have ih := vL_len n
    have : ∀ xs : List Vec, (xs.flatMap fun r => [r ++ [false], r ++ [true]]).length = 2 * xs.length := fun xs => by
      induction xs with
      | nil => rfl
      | cons x xs h =>
        rw [List.flatMap_cons, List.length_append, h]
        simp only [List.length_cons, List.length_nil]
        omega
    show ((vL n).flatMap fun r => [r ++ [false], r ++ [true]]).length = _
    rw [this, ih, Nat.pow_succ, Nat.mul_comm]
theorem mem_vL : ∀ {n : Nat} {v : Vec}, v ∈ vL n ↔ v.length = n
  | 0, v => by simp [vL]
  | n + 1, v => by
    show v ∈ (vL n).flatMap _ ↔ _
    rw [List.mem_flatMap]
    constructor
    · rintro ⟨r, hr, h⟩
      have rl := mem_vL.mp hr
      simp only [List.mem_cons, List.not_mem_nil, or_false] at h
      rcases h with rfl | rfl <;> simp [rl]
    · intro h
      rcases List.eq_nil_or_concat v with e | ⟨r, b, e⟩
      · rw [e] at h
        cases h
      · rw [List.concat_eq_append] at e
        subst e
        refine ⟨r, mem_vL.mpr (by simpa using h), ?_⟩
        cases b <;> simp
theorem nodup_vL : ∀ n, (vL n).Nodup
  | 0 => by simp [vL]
  | n + 1 => by
    have ih := nodup_vL n
    have : ∀ xs : List Vec, xs.Nodup → (xs.flatMap fun r => [r ++ [false], r ++ [true]]).Nodup := fun xs => by
      induction xs with
      | nil => intro _; simp
      | cons x xs h =>
        intro nd
        have n2 := List.nodup_cons.mp nd
        rw [List.flatMap_cons, List.nodup_append]
        refine ⟨?_, h n2.2, fun a ha b hb e => ?_⟩
        · simp
        · obtain ⟨r, hr, hb⟩ := List.mem_flatMap.mp hb
          have : r ≠ x := fun z => n2.1 (z ▸ hr)
          subst e
          simp only [List.mem_cons, List.not_mem_nil, or_false] at ha hb
          rcases ha with rfl | rfl <;> rcases hb with e | e
          all_goals
            have e2 := List.append_inj' e rfl
            exact this e2.1.symm
    exact this _ ih
theorem vL_perm (n : Nat) : (vL n).Perm (allV n) := (List.perm_ext_iff_of_nodup (nodup_vL n) (nodup_allV n)).mpr fun v => by rw [mem_vL, mem_allV]
/-- the law's way to them -/
theorem vL_step (xs : List Vec) : (xs.map (· ++ [false]) ++ xs.map (· ++ [true])).Perm (xs.flatMap fun r => [r ++ [false], r ++ [true]]) := by
  induction xs with
  | nil => exact List.Perm.refl _
  | cons x xs ih =>
    rw [List.flatMap_cons]
    show ((x ++ [false]) :: (xs.map (· ++ [false]) ++ ((x ++ [true]) :: xs.map (· ++ [true])))).Perm ((x ++ [false]) :: (x ++ [true]) :: _)
    refine List.Perm.cons _ ?_
    exact List.perm_middle.trans (List.Perm.cons _ ih)
theorem flat_perm {xs ys : List Vec} (h : xs.Perm ys) : (xs.flatMap fun r => [r ++ [false], r ++ [true]]).Perm (ys.flatMap fun r => [r ++ [false], r ++ [true]]) := h.flatMap_right _
theorem stvs_step {n : Nat} {zs : List Str} (h : zs.Perm ((vL n).map stv)) : (zs.map (fun z : Str => z ++ ("0" : Str)) ++ zs.map (fun z : Str => z ++ ("1" : Str))).Perm ((vL (n + 1)).map stv) := by
  have e0 : ∀ y : Vec, ∀ t : Str, stv y = t → ((vL n).map stv).map (fun z : Str => z ++ t) = ((vL n).map (· ++ y)).map stv := fun y t e => by
    rw [List.map_map, List.map_map]
    exact List.map_congr_left fun v _ => by
      show stv v ++ t = stv (v ++ y)
      rw [stv_app, e]
  have h0 := h.map (fun z : Str => z ++ ("0" : Str))
  have h1 := h.map (fun z : Str => z ++ ("1" : Str))
  rw [e0 _ _ stv_f] at h0
  rw [e0 _ _ stv_t] at h1
  refine (h0.append h1).trans ?_
  rw [← List.map_append]
  exact (vL_step (vL n)).map stv
/-! ### how many ones -/
theorem dot_ones (ps p : List Str) : ∀ {v : Vec}, ps.length = v.length → dot (vecP ps p) v = decide (((ps.zip (v.map bC)).filter fun pc => decide (pc.2 = 49 ∧ pc.1 ∈ p)).length % 2 = 1) := by
  induction ps with
  | nil =>
    intro v h
    simp [vecP, dot]
  | cons x ps ih =>
    intro v h
    match v, h with
    | b :: v, h =>
      have ih := ih (v := v) (Nat.succ.inj h)
      show xor (decide (x ∈ p) && b) (dot (vecP ps p) v) = _
      rw [ih]
      show _ = decide ((((x, bC b) :: ps.zip (v.map bC)).filter fun pc => decide (pc.2 = 49 ∧ pc.1 ∈ p)).length % 2 = 1)
      by_cases m : x ∈ p
      · cases b
        · rw [List.filter_cons_of_neg (by simp [bC])]
          simp
        · rw [List.filter_cons_of_pos (by simp [bC, m]), List.length_cons]
          generalize ((ps.zip (v.map bC)).filter fun pc => decide (pc.2 = 49 ∧ pc.1 ∈ p)).length = k
          have h2 : k % 2 = 0 ∨ k % 2 = 1 := by omega
          rcases h2 with h2 | h2
          · have : (k + 1) % 2 = 1 := by omega
            simp [m, h2, this]
          · have : (k + 1) % 2 = 0 := by omega
            simp [m, h2, this]
      · rw [List.filter_cons_of_neg (by simp [m])]
        simp [m]
end Lk
set_option Elab.async false
set_option linter.all false
set_option maxRecDepth 100000
set_option maxHeartbeats 4000000
set_option pp.maxSteps 1200
set_option pp.deepTerms false
namespace K6
open PySem PySem.Spec PyProof.Rows L2 Lk
section
variable {P : Program} {w : World} {K : PySem.W.Frag} {mg : Str → Option Value} {base : Heap} {f : Addr} {fd : FuncData}
def ansV (L : Lore) (k : KP) (v : Vec) : Vec := k.2.map fun p => dot (vecP L.parts p) v
end
end K6
set_option Elab.async false
set_option linter.all false
set_option maxRecDepth 100000
set_option maxHeartbeats 4000000
set_option pp.maxSteps 1200
set_option pp.deepTerms false
namespace K6
open PySem PySem.Spec PyProof.Rows L2 Lk
section
variable {P : Program} {w : World} {K : PySem.W.Frag} {mg : Str → Option Value} {base : Heap} {f : Addr} {fd : FuncData}
abbrev sIsLot : Stmt := top 19
abbrev sRefLot : Stmt := top 20
end
end K6
set_option Elab.async false
set_option linter.all false
set_option maxRecDepth 100000
set_option maxHeartbeats 4000000
/-! Part V: t + u of tuples, t empty or not. -/
namespace Lk
open PySem PySem.Spec PyProof.Rows L2
theorem tuple_add0 (l : Addr) (items : Array Value) (n : Nat) (b : Addr) (items2 : Array Value) (n2 : Nat) (dd dd2 : Option Addr) (sl sl2 : Array (Option Value)) (hc0 : items.isEmpty = true) :
    Meets (Builtin.«tuple.__add__» ⟨[.ref l, .ref b], []⟩) (fun _ R s => s.heap.get? l = some { cls := .type "tuple", dict := dd, data := .seq items n, slots := sl } ∧ s.heap.get? b = some { cls := .type "tuple", dict := dd2, data := .seq items2 n2, slots := sl2 } ∧ R (.ok (.ret (Value.ref b))) { s with heap := s.heap, toks := s.toks }) :=
  .of_wp fun prog w A R s h => by
    obtain ⟨hp, g, d, tk, os⟩ := s; obtain ⟨hl, hb, h⟩ := h; have f1 := PySem.AutoSeq1.idx_int; have f2 := PySem.AutoSeq1.sub_tuple_tuple; have f3 := PySem.AutoSeq1.sub_list_list; have f4 := PySem.AutoSeq1.sub_tuple_list; have f5 := PySem.AutoSeq1.sub_list_tuple
    wp_walk using PySem.AutoSeq1.wpAny_loadPart' hl, PySem.AutoSeq1.wpAny_loadPart' hb; exact ⟨_, rfl, h⟩
theorem cat_tup0 {prog : Program} {w : World} {A : Around} {E : Value → Shared → Prop} {s : Shared} {t b : Addr} {ws : List Value} {Q : Value → Shared → Prop} (ht : IsTup s.heap t #[]) (hb : IsTup s.heap b ws.toArray) (h : Q (.ref b) s) : wpAny (model prog w) A (binaryOp .Add (.ref t) (.ref b)) Q E s := by
  obtain ⟨⟨cls, dd, data, sl⟩, ho, hc, n, hd⟩ := id ht
  obtain ⟨⟨cls2, dd2, data2, sl2⟩, ho2, hc2, n2, hd2⟩ := id hb
  simp only at hc hd hc2 hd2
  subst hc hd hc2 hd2
  exact concat_meets ⟨_, ho, rfl⟩ ⟨_, ho2, rfl⟩ noFill_tuple_add seq_tuple_add PySem.F.slot_tuple_add PySem.F.entry_tuple_add (PySem.F.args_tuple_add_2 _ _)
    (tuple_add0 t _ n b ws.toArray n2 dd dd2 sl sl2 (by simp)) ⟨ho, ho2, h⟩
/-- t + u, u not empty -/
def rCatT2 (K : PySem.W.Frag) : R2 := fun x y H Q => ∃ a b xs ys, x = .ref a ∧ y = .ref b ∧ SqT K H a xs ∧ SqT K H b ys ∧ ys ≠ [] ∧ xs.length + ys.length ≤ sizeLine ∧ (xs = [] → Q (.ref b) H) ∧ (xs ≠ [] → ∀ p, H p = none → Q (.ref p) (upd H p (.tup (xs ++ ys))))
theorem op_catT2 {X : Cx} : OpR X (binaryOp .Add) (rCatT2 X.K) := by
  intro pins s σ H x y v u Q I rx ry h
  obtain ⟨a, b, xs, ys, rfl, rfl, ha, hb, hy, hz, q1, q2⟩ := h
  by_cases hx : xs = []
  · subst hx
    cases rx
    cases ry
    obtain ⟨its, r1, p1, _⟩ := I.tuple ha
    obtain ⟨its2, r2, p2, _⟩ := I.tuple hb
    cases r1
    exact cat_tup0 p1 p2 ⟨.ref b, H, I, rfl, q1 rfl⟩
  · exact op_catT pins s σ H _ _ _ _ Q I rx ry ⟨a, b, xs, ys, rfl, rfl, ha, hb, hx, hz, fun e => absurd e hy, fun _ => q2 hx⟩
end Lk
set_option Elab.async false
set_option linter.all false
set_option maxRecDepth 100000
set_option maxHeartbeats 4000000
set_option pp.maxSteps 1200
set_option pp.deepTerms false
namespace K6
open PySem PySem.Spec PyProof.Rows L2 Lk
section
variable {P : Program} {w : World} {K : PySem.W.Frag} {mg : Str → Option Value} {base : Heap} {f : Addr} {fd : FuncData}
theorem sub_filterG {α : Type} [DecidableEq α] {ss zs : List α} (h : ss.Sublist zs) : zs.Nodup → zs.filter (fun z => decide (z ∈ ss)) = ss := by
  induction h with
  | slnil => intro _; rfl
  | cons a h ih =>
    intro nd
    have n2 := List.nodup_cons.mp nd
    rw [List.filter_cons_of_neg (by simpa using fun m => n2.1 (h.subset m))]
    exact ih n2.2
  | @cons_cons l1 l2 a h ih =>
    intro nd
    have n2 := List.nodup_cons.mp nd
    rw [List.filter_cons_of_pos (by simp)]
    have e : l2.filter (fun z => decide (z ∈ a :: l1)) = l2.filter (fun z => decide (z ∈ l1)) := List.filter_congr fun z hz => by
      have : z ≠ a := fun e => n2.1 (e ▸ hz)
      simp [this]
    rw [e, ih n2.2]
theorem strs_inV (z : Str) (ys : List Str) : inV (.str z) (ys.map V.str) = decide (z ∈ ys) := by
  rw [inV_str]
theorem fm_strs (q : Str → Bool) : ∀ zs : List Str, (zs.filterMap fun z => if q z = true then some (V.str z) else none) = (zs.filter q).map V.str
  | [] => rfl
  | z :: zs => by
    have ih := fm_strs q zs
    by_cases m : q z = true
    · rw [List.filterMap_cons, if_pos m, List.filter_cons_of_pos m, List.map_cons, ih]
    · rw [List.filterMap_cons, if_neg m, List.filter_cons_of_neg m, ih]
/-- names of keepers as they are drawn -/
structure NmOk (ns : List Str) : Prop where
  nd : ns.Nodup
  k6 : ns.length ≤ 6
  ok : ∀ z ∈ ns, PyData.strOk z = true ∧ z.length ≤ 8
/-- the same, or a tuple that has methods -/
def LotE (H : Hp) (t : Addr) (ys : List Str) : Prop := H t = some (.tup (ys.map V.str)) ∨ TupX H t (ys.map V.str)
theorem LotE.same {H H' : Hp} {t : Addr} {ys : List Str} (h : LotE H t ys) (s : Same H H') : LotE H' t ys := h.elim (fun h => .inl (s _ _ h)) fun h => .inr (h.same s)
theorem LotE.sq {K : PySem.W.Frag} {H : Hp} {t : Addr} {ys : List Str} (h : LotE H t ys) : SqT K H t (ys.map V.str) := h.elim (fun h => SqT.of h) fun h => h.sq
theorem LotE.ty {K : PySem.W.Frag} {H : Hp} {t : Addr} {ys : List Str} (h : LotE H t ys) : TyX K H (.ref t) (.type "tuple") := h.elim (fun h => .base (.tup h)) fun h => isi_tup h
def spIsLot (C : Addr) : Sp := fun vs H Q _ => ∃ (c t : Addr) (ns ys : List Str), vs = [.ref c, .ref t] ∧ CircAt H C c ns ∧ LotE H t ys ∧ ys.Sublist ns ∧ NmOk ns ∧ ∀ H', Same H H' → Q (.bl true) H'
theorem scIsLot : FnScope ["circle", "value", "name"] ["circle", "value"] (defScope sIsLot) := ⟨rfl, rfl, rfl, by decide +kernel, rfl, by decide +kernel, by decide +kernel⟩
theorem ok_isLot {C fC : Addr} (F : Fun K "is_lot" "is_lot" sIsLot f fd) (T : Bl mg) (Cc : Cn mg) (CC : CircC K C fC) : FnOk P w K mg base CX0 1 f fd ["circle", "value"] (spIsLot C) := by
  refine F.ok scIsLot (fun vs H Q E h => ?_) (fun cdv A outer s H vs Q E hr h => ?_)
  · obtain ⟨c, t, ns, ys, rfl, _⟩ := h
    rfl
  · obtain ⟨c, t, ns, ys, rfl, ⟨cdx, nm, ec, en⟩, ht, sub, nok, k⟩ := h
    have nd := scIsLot.nd
    refine ⟨_, pss_one (ps_ret (pe_and (pe_callB call_isi (by rfl) T.isin boot_isinstance (pa_cons (pv 1) (pa_cons (pe_bltn (v := .ty "tuple") (by rfl) Cc.tuple rfl rfl) pa_nil)))
      (pe_one (pe_cmpR (op_eqD (room64 hr)) (pv 1) (pe_tupleOf (by rfl) Cc.tuple (pe_lc (own := [("name", 2)]) (g := gName 2) (tt := tTest (tOp (rIn K false) (tVar 2) (tVar 1))) (te := tVar 2) rfl nd (pi_tup (pe_fld (pv 0) rfl))
        (blkOk_by (N := ["circle", "value", "name"]) (sc := defScope sIsLot) (by decide +kernel)) (fun _ _ _ _ _ => pg_name (i := 2) nd rfl (.inl rfl)) (fun _ _ _ _ _ => pts_one (pt_cmpR op_in_seq (pv 2) (pv 1) rfl)) (fun _ _ _ _ _ => pv 2))) (nomark _))))), ?_⟩
    refine ⟨_, rfl, _, _, _, _, true, rfl, .ty _, ht.ty, by rfl, _, rfl, iteT ?_⟩
    refine ⟨_, rfl, _, rfl, c, C, cdx, _, .ref nm, rfl, ec, CC.cls, CC.nm, rfl, nm, rfl, ⟨_, en.sq⟩, fun D nD => lc_fm (walk_tup (a := nm) (xs := ns.map V.str)) ns (fun z => if decide (z ∈ ys) = true then some (V.str z) else none) (by rw [List.length_map]) (by rw [List.length_map]; have := nok.k6; omega) nD (fun H s => (en.same s).sq) ?_ ?_⟩
    · rintro i u z H2 H2' R Rn hz s2 ⟨rfl, hu⟩ k1 k2
      obtain rfl : V.str z = u := by
        rw [List.getElem?_map, hz] at hu
        exact Option.some.inj hu
      refine ⟨rfl, _, rfl, _, rfl, t, _, rfl, .inr ((ht.same s2).sq), rfl, flat_strs _, _, rfl, ?_⟩
      rw [if_neg (by decide), strs_inV]
      by_cases h : z ∈ ys
      · exact iteA (decide_eq_true h) ⟨_, rfl, k1 _ _ (if_pos (decide_eq_true h)) (Same.refl _)⟩
      · exact iteB (decide_eq_false h) (k2 _ (if_neg (by simpa using h)) (Same.refl _))
    · intro H2 s2 eD
      rw [fm_strs, sub_filterG sub nok.nd] at eD
      have yo : ∀ z ∈ ys, PyData.strOk z = true ∧ z.length ≤ 8 := fun z hz => nok.ok z (sub.subset hz)
      have sh := (nice_strs (m := 6) yo (Nat.le_trans sub.length_le nok.k6)).shaped (by decide)
      refine .inl ⟨D, _, rfl, SqL.of eD, fun q nq => ?_⟩
      have s3 : Same H2 (upd H2 q (.tup (ys.map V.str))) := same_new nq
      refine ⟨.tuple (strsD ys), .tuple (strsD ys), .tup (((ht.same s2).same s3).sq) (dp_strs ys), .tup (SqT.of upd_same) (dp_strs ys), sh, sh, ?_⟩
      have e : PyData.eqv (.tuple (strsD ys)) (.tuple (strsD ys)) = true := SeqAt.eqv_refl _ (SeqAt.canLay_of_shaped sh)
      rw [e]
      exact k _ (s2.trans s3)
def spRefLot (C : Addr) : Sp := fun vs H Q _ => ∃ (c t : Addr) (ns ys : List Str), vs = [.ref c, .ref t] ∧ CircAt H C c ns ∧ LotE H t ys ∧ ys.Sublist ns ∧ NmOk ns ∧ ∀ H', Same H H' → Q .non H'
theorem scRefLot : FnScope ["circle", "value"] ["circle", "value"] (defScope sRefLot) := ⟨rfl, rfl, rfl, by decide +kernel, rfl, by decide +kernel, by decide +kernel⟩
theorem ok_refLot {C fC f1 : Addr} {fd1 : FuncData} (F : Fun K "refuse_lot" "refuse_lot" sRefLot f fd) (T : Bl mg) (Cc : Cn mg) (CC : CircC K C fC) (F1 : Fun K "is_lot" "is_lot" sIsLot f1 fd1) (b1 : Binds K fd1 ["circle", "value"] []) (m1 : mg "is_lot" = some (.ref f1)) :
    FnOk P w K mg base CX0 2 f fd ["circle", "value"] (spRefLot C) := by
  have G1 : FnOk P w K mg base CX0 1 f1 fd1 ["circle", "value"] (spIsLot C) := ok_isLot F1 T Cc CC
  refine F.ok scRefLot (fun vs H Q E h => ?_) (fun cdv A outer s H vs Q E hr h => ?_)
  · obtain ⟨c, t, ns, ys, rfl, _⟩ := h
    rfl
  · obtain ⟨c, t, ns, ys, rfl, hc, ht, sub, nok, k⟩ := h
    refine ⟨_, pss_one (ps_if (pt_not (pt_val (pe_call G1 hr (by rfl) m1 F1.kp b1 .nil pass0 (pa_cons (pv 0) (pa_cons (pv 1) pa_nil))))) pss_no pss_nil), ?_⟩
    exact ⟨_, rfl, _, rfl, c, t, ns, ys, rfl, hc, ht, sub, nok, fun H1 s1 => ⟨_, rfl, iteB rfl (k H1 s1)⟩⟩
end
end K6
set_option Elab.async false
set_option linter.all false
set_option maxRecDepth 100000
set_option maxHeartbeats 4000000
set_option pp.maxSteps 1200
set_option pp.deepTerms false
namespace K6
open PySem PySem.Spec PyProof.Rows L2 Lk
section
variable {P : Program} {w : World} {K : PySem.W.Frag} {mg : Str → Option Value} {base : Heap} {f : Addr} {fd : FuncData}
abbrev RowS := RowV Spot
def RelR (H : Hp) (v : V) (r : RowS) : Prop := ∃ t u, v = V.ref t ∧ H t = some (.tup [.ref u, .int ((toN r.2 : Nat) : Int)]) ∧ H u = some (.tup [.str r.1.1, .int (r.1.2 : Int)])
theorem RelR.keep (H H' : Hp) (v : V) (r : RowS) (k : Keep H H') (h : RelR H v r) : RelR H' v r := by
  obtain ⟨t, u, e, h1, h2⟩ := h
  exact ⟨t, u, e, k _ _ h1 (fun xs z => by cases z), k _ _ h2 (fun xs z => by cases z)⟩
end
end K6
set_option Elab.async false
set_option linter.all false
set_option maxRecDepth 100000
set_option maxHeartbeats 4000000
set_option pp.maxSteps 1200
set_option pp.deepTerms false
namespace K6
open PySem PySem.Spec PyProof.Rows L2 Lk
section
variable {P : Program} {w : World} {K : PySem.W.Frag} {mg : Str → Option Value} {base : Heap} {f : Addr} {fd : FuncData}
/-- the spots of some keepers -/
def spotsIn (L : Lore) (ys : List Str) : List Spot := (spotsOf L.kps).filter fun s => decide (s.1 ∈ ys)
end
end K6
set_option Elab.async false
set_option linter.all false
set_option maxRecDepth 100000
set_option maxHeartbeats 4000000
/-! Part Z: zip of two things of which each is a list, a tuple or a text. -/
namespace Lk
open PySem PySem.Spec PyProof.Rows L2
/-- what a zip walks -/
inductive Src where
  | tup (a : Addr) | lst (a : Addr) | txt (z : Str)
def Src.v : Src → V
  | .tup a => .ref a
  | .lst a => .ref a
  | .txt z => .str z
def Src.addr : Src → Option Addr
  | .tup a => some a
  | .lst a => some a
  | .txt _ => none
def SrcAt (K : PySem.W.Frag) : Src → Hp → List V → Prop
  | .tup a, H, xs => SqT K H a xs
  | .lst a, H, xs => SqL K H a xs
  | .txt z, _, xs => xs = z.cps.toList.map fun c => V.str ⟨#[c]⟩
/-- its iterator at the i-th item -/
def ItrAt (it : Addr) (t : Tok) : Src → Nat → Heap → Prop
  | .tup a, i, h => h.IsTupleIter it a i
  | .lst a, i, h => h.IsListIter it a i
  | .txt z, i, h => h.IsStrIter it (strIterType z) z t i
theorem ItrAt.obj {it : Addr} {t : Tok} {i : Nat} {h : Heap} : ∀ {sr : Src}, ItrAt it t sr i h → ∃ o, h.get? it = some o ∧ ∀ v, o.data ≠ .cell v
  | .tup _, ⟨o, e, _, d⟩ => ⟨o, e, fun v q => by rw [d] at q; cases q⟩
  | .lst _, ⟨o, e, _, d⟩ => ⟨o, e, fun v q => by rw [d] at q; cases q⟩
  | .txt _, ⟨o, e, _, d⟩ => ⟨o, e, fun v q => by rw [d] at q; cases q⟩
theorem ItrAt.keep {it : Addr} {t : Tok} {i : Nat} {h h' : Heap} (k : ∀ o, h.get? it = some o → h'.get? it = some o) : ∀ {sr : Src}, ItrAt it t sr i h → ItrAt it t sr i h'
  | .tup _, ⟨o, e, r⟩ => ⟨o, k o e, r⟩
  | .lst _, ⟨o, e, r⟩ => ⟨o, k o e, r⟩
  | .txt _, ⟨o, e, r⟩ => ⟨o, k o e, r⟩
theorem SrcAt.one {X : Cx} {pins : List (Addr × Obj)} {σ : L2.St} {H : Hp} {s : Shared} (I : Inv X pins σ H s) : ∀ {sr : Src} {xs ys : List V}, SrcAt X.K sr H xs → SrcAt X.K sr H ys → xs = ys
  | .tup _, _, _, h, g => I.tuple_inj h g
  | .lst _, _, _, h, g => I.list_inj h g
  | .txt _, _, _, h, g => Eq.trans h (Eq.symm g)
theorem vals_back : ∀ {xs : List V} {us : List Value} {i : Nat} {u : Value}, Vals xs us → us[i]? = some u → ∃ x, xs[i]? = some x ∧ RelV x u
  | _, _, _, _, .nil, e => by simp at e
  | _, _, 0, _, .cons r _, e => by simp at e; subst e; exact ⟨_, rfl, r⟩
  | _, _, i + 1, u, .cons _ t, e => by
    obtain ⟨x, h1, h2⟩ := vals_back t (by simpa using e)
    exact ⟨x, by simpa using h1, h2⟩
/-- the items drawn, one after the other -/
theorem src_draws {X : Cx} {pins : List (Addr × Obj)} {σ : L2.St} {H : Hp} {s : Shared} {A : Around} (I : Inv X pins σ H s) (calm : A.handled = none) {it : Addr} {t : Tok} {i : Nat} : ∀ {sr : Src} {xs : List V}, SrcAt X.K sr H xs → ItrAt it t sr i s.heap → (∀ a, sr.addr = some a → a ≠ it) →
    ∃ (fp : List Addr) (Pv : Nat → Value → Prop) (Sv : Nat → Heap → Prop), Draws X.prog X.w A it fp xs.length Pv Sv ∧ Sv i s.heap ∧ (∀ j v, Pv j v → ∃ x, xs[j]? = some x ∧ RelV x v) ∧ (∀ j h, Sv j h → ItrAt it t sr j h) ∧ it ∈ fp ∧ ∀ b ∈ fp, b = it ∨ sr.addr = some b
  | .tup a, xs, at_, st, ne => by
    obtain ⟨its, rv, p, _⟩ := I.tuple at_
    have d := Draws.tuple (prog := X.prog) (w := X.w) calm it a (ne a rfl) its.toArray
    rw [List.size_toArray, ← rv.length] at d
    refine ⟨_, _, _, d, ⟨st, p⟩, fun j v e => ?_, fun j h e => e.1, by simp, fun b hb => ?_⟩
    · exact vals_back rv (by simpa using e)
    · rcases List.mem_cons.mp hb with h | h
      · exact .inl h
      · exact .inr (by rw [List.mem_singleton.mp h]; rfl)
  | .lst a, xs, at_, st, ne => by
    obtain ⟨its, rv, p, _⟩ := I.list at_
    have d := Draws.list (prog := X.prog) (w := X.w) calm it a (ne a rfl) its.toArray
    rw [List.size_toArray, ← rv.length] at d
    refine ⟨_, _, _, d, ⟨st, p.isList⟩, fun j v e => ?_, fun j h e => e.1, by simp, fun b hb => ?_⟩
    · exact vals_back rv (by simpa using e)
    · rcases List.mem_cons.mp hb with h | h
      · exact .inl h
      · exact .inr (by rw [List.mem_singleton.mp h]; rfl)
  | .txt z, xs, at_, st, ne => by
    have e0 : xs = z.cps.toList.map fun c => V.str ⟨#[c]⟩ := at_
    subst e0
    have d := Draws.text (prog := X.prog) (w := X.w) calm it z t
    rw [show z.cps.size = (z.cps.toList.map fun c => V.str ⟨#[c]⟩).length by rw [List.length_map, Array.length_toList]] at d
    refine ⟨_, _, _, d, st, fun j v e => ?_, fun j h e => e, by simp, fun b hb => .inl (List.mem_singleton.mp hb)⟩
    obtain ⟨c, u, e, ev⟩ := e
    subst ev
    exact ⟨.str ⟨#[c]⟩, by rw [List.getElem?_map, Array.getElem?_toList, e]; rfl, ⟨u, rfl⟩⟩
/-- pairs of both, each new -/
def ItzS (K : PySem.W.Frag) (s1 s2 : Src) : It :=
  ⟨fun i H => ∃ xs ys x y, SrcAt K s1 H xs ∧ SrcAt K s2 H ys ∧ xs[i]? = some x ∧ ys[i]? = some y,
    fun i H v H' => ∃ T x y, v = .ref T ∧ H T = none ∧ H' = upd H T (.tup [x, y]) ∧ (∀ xs, SrcAt K s1 H xs → xs[i]? = some x) ∧ ∀ ys, SrcAt K s2 H ys → ys[i]? = some y,
    fun i H => ∃ xs ys, SrcAt K s1 H xs ∧ SrcAt K s2 H ys ∧ i ≤ xs.length ∧ i ≤ ys.length ∧ (i = xs.length ∨ i = ys.length)⟩
/-- the zip's cells lie apart, and apart from what is walked -/
structure ZFar (z TI TO i1 i2 : Addr) (s1 s2 : Src) : Prop where
  a1 : TI ≠ z
  a2 : TO ≠ z
  a3 : TI ≠ TO
  a4 : TI ≠ i1
  a5 : TI ≠ i2
  a6 : TO ≠ i1
  a7 : TO ≠ i2
  a8 : z ≠ i1
  a9 : z ≠ i2
  aA : i1 ≠ i2
  far : ∀ b, s1.addr = some b ∨ s2.addr = some b → b ≠ z ∧ b ≠ TO ∧ b ≠ i1 ∧ b ≠ i2
theorem ZFar.sep {z TI TO i1 i2 : Addr} {s1 s2 : Src} (D : ZFar z TI TO i1 i2 s1 s2) {fp1 fp2 : List Addr} (m1 : i1 ∈ fp1) (m2 : i2 ∈ fp2) (f1 : ∀ b ∈ fp1, b = i1 ∨ s1.addr = some b) (f2 : ∀ b ∈ fp2, b = i2 ∨ s2.addr = some b) : ZipSep2 z TI TO i1 i2 fp1 fp2 where
  TIz := D.a1
  TOz := D.a2
  TITO := D.a3
  TIi1 := D.a4
  mem1 := m1
  zf1 := fun h => (f1 _ h).elim D.a8 fun e => (D.far _ (.inl e)).1 rfl
  Tf1 := fun h => (f1 _ h).elim D.a6 fun e => (D.far _ (.inl e)).2.1 rfl
  TIi2 := D.a5
  mem2 := m2
  zf2 := fun h => (f2 _ h).elim D.a9 fun e => (D.far _ (.inr e)).1 rfl
  Tf2 := fun h => (f2 _ h).elim D.a7 fun e => (D.far _ (.inr e)).2.1 rfl
  sep1_2 := fun h => (f2 _ h).elim D.aA fun e => (D.far _ (.inr e)).2.2.1 rfl
  sep2_1 := fun h => (f1 _ h).elim (fun e => D.aA e.symm) fun e => (D.far _ (.inl e)).2.2.2 rfl
theorem turn_zipS {P : Program} {w : World} {K : PySem.W.Frag} {es : List Expr} {kk : Nat} {tp : Pos} {z TI TO i1 i2 : Addr} {t1 t2 : Tok} {s1 s2 : Src} (D : ZFar z TI TO i1 i2 s1 s2) :
    Turn P w K (.Tuple es kk tp) (ItzS K s1 s2) [z, TI, TO, i1, i2] z (fun i h => IsZip h z TI TO .none ∧ IsTupOf2 h TI (.ref i1) (.ref i2) ∧ (∃ x y, IsTupOf2 h TO x y) ∧ ItrAt i1 t1 s1 i h ∧ ItrAt i2 t2 s2 i h) where
  mem := by simp
  obj := fun i h ⟨hz, hTI, ⟨x, y, hTO⟩, h1, h2⟩ c hc => by
    rcases (show c = z ∨ c = TI ∨ c = TO ∨ c = i1 ∨ c = i2 by simpa using hc) with rfl | rfl | rfl | rfl | rfl
    · exact ⟨_, hz, fun v q => nomatch q⟩
    · exact ⟨_, hTI, fun v q => nomatch q⟩
    · exact ⟨_, hTO, fun v q => nomatch q⟩
    · exact h1.obj
    · exact h2.obj
  keep := fun i h h' ⟨hz, hTI, ⟨x, y, hTO⟩, h1, h2⟩ k => ⟨k z (by simp) _ hz, k TI (by simp) _ hTI, ⟨x, y, k TO (by simp) _ hTO⟩, h1.keep fun o e => k i1 (by simp) o e, h2.keep fun o e => k i2 (by simp) o e⟩
  item := by
    intro X hP hw hK calm i pins s σ H E I hf st hg
    subst hP hw hK
    obtain ⟨hz, hTI, ⟨x0, y0, hTO⟩, h1, h2⟩ := st
    obtain ⟨xs, ys, x, y, qx, qy, hx, hy⟩ := hg
    obtain ⟨fp1, P1, S1, d1, st1, v1, b1, m1, f1⟩ := src_draws (A := X.A.in1) I (I.ok.hd calm) qx h1 fun a e => (D.far a (.inl e)).2.2.1
    obtain ⟨fp2, P2, S2, d2, st2, v2, b2, m2, f2⟩ := src_draws (A := X.A.in1) I (I.ok.hd calm) qy h2 fun a e => (D.far a (.inr e)).2.2.2
    have lz : z < s.heap.objs.size := Heap.lt_size hz
    refine wpAny_pyNext_zipD2_item (D.sep m1 m2 f1 f2) d1 d2 hz hTI hTO st1 st2 (List.getElem?_eq_some_iff.mp hx).1 (List.getElem?_eq_some_iff.mp hy).1 fun u1 u2 h' tk p1 p2 z' TO' r1 r2 hT hsz hk => ?_
    obtain ⟨x', hx', rx⟩ := v1 i u1 p1
    obtain ⟨y', hy', ry⟩ := v2 i u2 p2
    obtain rfl : x = x' := Option.some.inj (hx.symm.trans hx')
    obtain rfl : y = y' := Option.some.inj (hy.symm.trans hy')
    refine ⟨_, rfl, wpAny_letOwnedTupleGo_zip (s := { s with heap := h', toks := tk }) z' fun h2' z2 sb => ?_⟩
    have hT2 : h2'.get? s.heap.objs.size = some { cls := .type "tuple", data := .seq #[u1, u2] } := (sb.2 _ (Nat.ne_of_gt lz)).trans hT
    have far4 : ∀ c o, c ∉ [z, TI, TO, i1, i2] → s.heap.get? c = some o → h2'.get? c = some o := fun c o nc e => by
      have e4 : c ≠ z ∧ c ≠ TI ∧ c ≠ TO ∧ c ≠ i1 ∧ c ≠ i2 := by simpa using nc
      exact (sb.2 c e4.1).trans (hk c o e4.1 e4.2.2.1 e4.2.2.2.1 e4.2.2.2.2 e)
    have I1 : Inv X pins σ (upd H s.heap.objs.size (.tup [x, y])) { s with heap := h2', toks := tk } :=
      I.turnedNew (ch := [z, TI, TO, i1, i2]) far4 hf (Nat.le_refl _) (show ObjOk X.prog X.w _ _ _ (.tup [x, y]) from ⟨by show 2 ≤ sizeLine; decide, [u1, u2], .cons rx (.cons ry .nil), ⟨_, hT2, rfl, _, rfl⟩⟩)
    refine ⟨.ref s.heap.objs.size, _, I1, rfl, ⟨_, x, y, rfl, I.hok.fresh (Nat.le_refl _), rfl, fun l hl => by rw [SrcAt.one I hl qx] <;> exact hx, fun l hl => by rw [SrcAt.one I hl qy] <;> exact hy⟩,
      ⟨z2, (sb.2 _ D.a1).trans (hk _ _ D.a1 D.a3 D.a4 D.a5 hTI), ⟨u1, u2, (sb.2 _ D.a2).trans TO'⟩, (b1 _ _ r1).keep fun o e => (sb.2 _ D.a8.symm).trans e, (b2 _ _ r2).keep fun o e => (sb.2 _ D.a9.symm).trans e⟩, fun c hc => ?_⟩
    have lt : c < s.heap.objs.size := by
      rcases (show c = z ∨ c = TI ∨ c = TO ∨ c = i1 ∨ c = i2 by simpa using hc) with rfl | rfl | rfl | rfl | rfl
      · exact lz
      · exact Heap.lt_size hTI
      · exact Heap.lt_size hTO
      · obtain ⟨_, e, _⟩ := h1.obj; exact Heap.lt_size e
      · obtain ⟨_, e, _⟩ := h2.obj; exact Heap.lt_size e
    rw [upd_ne (Nat.ne_of_lt lt)]
    exact (hf c hc).1
  done := by
    intro X hP hw hK calm i pins s σ H E I hf st hg
    subst hP hw hK
    obtain ⟨hz, hTI, ⟨x0, y0, hTO⟩, h1, h2⟩ := st
    obtain ⟨xs, ys, qx, qy, l1, l2, fin⟩ := hg
    obtain ⟨fp1, P1, S1, d1, st1, v1, b1, m1, f1⟩ := src_draws (A := X.A.in1) I (I.ok.hd calm) qx h1 fun a e => (D.far a (.inl e)).2.2.1
    obtain ⟨fp2, P2, S2, d2, st2, v2, b2, m2, f2⟩ := src_draws (A := X.A.in1) I (I.ok.hd calm) qy h2 fun a e => (D.far a (.inr e)).2.2.2
    exact wpAny_pyNext_zipD2_end (D.sep m1 m2 f1 f2) d1 d2 hz hTI hTO st1 st2 l1 l2 fin fun h' tk hk => ⟨rfl, I.turnedL (ch := [z, TI, TO, i1, i2]) (fun c o nc e => by
      have e4 : c ≠ z ∧ c ≠ TI ∧ c ≠ TO ∧ c ≠ i1 ∧ c ≠ i2 := by simpa using nc
      exact hk c o e4.1 e4.2.2.1 e4.2.2.2.1 e4.2.2.2.2 e) hf⟩
  self := fun A i s Q E st h => wpAny_pyIter_zip st.1 h
theorem src_begins {X : Cx} {pins : List (Addr × Obj)} {σ : L2.St} {H : Hp} {s : Shared} (I : Inv X pins σ H s) : ∀ {sr : Src} {xs : List V} {u : Value}, SrcAt X.K sr H xs → RelV sr.v u →
    ∃ (o : Obj) (Hc : Heap → Prop) (t : Tok), Begins u o Hc ∧ Hc s.heap ∧ (∀ (h : Heap) (it : Addr), h.get? it = some o → ItrAt it t sr 0 h) ∧ ∀ b, sr.addr = some b → Nat.blt b s.heap.objs.size = true
  | .tup a, xs, u, at_, ru => by
    obtain rfl : u = .ref a := ru
    obtain ⟨its, rv, p, _⟩ := I.tuple at_
    obtain ⟨o, ho, _⟩ := id p
    exact ⟨_, _, 0, begins_tuple a its.toArray, p, fun h it e => ⟨_, e, rfl, rfl⟩, fun b e => by
      obtain rfl : a = b := Option.some.inj e
      exact Nat.ble_eq_true_of_le (Heap.lt_size ho)⟩
  | .lst a, xs, u, at_, ru => by
    obtain rfl : u = .ref a := ru
    obtain ⟨its, rv, p, _⟩ := I.list at_
    obtain ⟨o, ho, _⟩ := id p.isList
    exact ⟨_, _, 0, begins_list a its.toArray, p.isList, fun h it e => ⟨_, e, rfl, rfl⟩, fun b e => by
      obtain rfl : a = b := Option.some.inj e
      exact Nat.ble_eq_true_of_le (Heap.lt_size ho)⟩
  | .txt z, xs, u, at_, ru => by
    obtain ⟨t, rfl⟩ := ru
    exact ⟨_, _, t, begins_text z t, trivial, fun h it e => ⟨_, e, rfl, rfl⟩, fun b e => by cases e⟩
theorem zfar {s1 s2 : Src} (n : Nat) (low : ∀ b, s1.addr = some b ∨ s2.addr = some b → Nat.blt b n = true) : ZFar (n + 4) (n + 2) (n + 3) n (n + 1) s1 s2 where
  a1 := fun h => absurd (show n + 2 = n + 4 from h) (by omega)
  a2 := fun h => absurd (show n + 3 = n + 4 from h) (by omega)
  a3 := fun h => absurd (show n + 2 = n + 3 from h) (by omega)
  a4 := fun h => absurd (show n + 2 = n from h) (by omega)
  a5 := fun h => absurd (show n + 2 = n + 1 from h) (by omega)
  a6 := fun h => absurd (show n + 3 = n from h) (by omega)
  a7 := fun h => absurd (show n + 3 = n + 1 from h) (by omega)
  a8 := fun h => absurd (show n + 4 = n from h) (by omega)
  a9 := fun h => absurd (show n + 4 = n + 1 from h) (by omega)
  aA := fun h => absurd (show n = n + 1 from h) (by omega)
  far := fun b hb => by
    have lt : @LT.lt Nat _ b n := Nat.le_of_ble_eq_true (low b hb)
    have ne : ∀ k : Nat, b ≠ n + k := fun k h => absurd (show @Eq Nat b (n + k) from h) (by omega)
    exact ⟨ne 4, ne 3, ne 0, ne 1⟩
/-- for .. in zip(e, e2) -/
def iZipS (K : PySem.W.Frag) (ta : TA) : TI := fun σ H R => ta σ H fun vs H1 => ∃ s1 s2 xs ys, vs = [s1.v, s2.v] ∧ SrcAt K s1 H1 xs ∧ SrcAt K s2 H1 ys ∧ R (ItzS K s1 s2) H1
theorem pi_zipS {X : Cx} {e e2 : Expr} {ta : TA} {p pos tp : Pos} {es : List Expr} {kk : Nat} (hg : Gl X "zip") (hm : X.mg "zip" = none) (ha : PA X [e, e2] ta) (hs : starEach [e, e2] X.env = (false, eval e X.env) :: starEach [e2] X.env := by rfl)
    (hpl : (backTo pos (starEach [e2] X.env)).any (·.1) = false := by rfl) : PI X (.Tuple es kk tp) (.Call (.Name "zip" p) [e, e2] [] pos) (iZipS X.K ta) := by
  refine ⟨fun pins s σ H R I h => Call_ (ld_blt I hg hm boot_zip (callWith_type1 (thn (ha.run pos pins s σ H _ I h) fun us s1 ⟨vs, H1, I1, rel, q1⟩ => ?_) hs hpl))⟩
  obtain ⟨r1, r2, xs, ys, rfl, qx, qy, q⟩ := q1
  obtain ⟨u1, u2, rfl, ru1, ru2⟩ := vals2 rel
  obtain ⟨o1, C1, t1, B1, c1, it1, low1⟩ := src_begins I1 qx ru1
  obtain ⟨o2, C2, t2, B2, c2, it2, low2⟩ := src_begins I1 qy ru2
  refine zip_begins2 B1 B2 c1 c2 fun h' hz hTI hTO g1 g2 hsz hk => wpAny_pyIter_zip hz ?_
  have I2 : Inv X pins σ H1 { s1 with heap := h' } := I1.kept (t' := s1.toks) hk
  have fresh : ∀ c, c ∈ [s1.heap.objs.size + 4, s1.heap.objs.size + 2, s1.heap.objs.size + 3, s1.heap.objs.size, s1.heap.objs.size + 1] → FpOk X pins H1 c := fun c hc => by
    have le : s1.heap.objs.size ≤ c := by
      rcases (show c = s1.heap.objs.size + 4 ∨ c = s1.heap.objs.size + 2 ∨ c = s1.heap.objs.size + 3 ∨ c = s1.heap.objs.size ∨ c = s1.heap.objs.size + 1 by simpa using hc) with z | z | z | z | z
      · rw [z]; exact Nat.le_add_right _ _
      · rw [z]; exact Nat.le_add_right _ _
      · rw [z]; exact Nat.le_add_right _ _
      · rw [z]; exact Nat.le_refl _
      · rw [z]; exact Nat.le_add_right _ _
    exact I1.fpOk le (I1.hok.fresh le)
  exact ⟨_, _, _, _, H1, rfl, I2, turn_zipS (t1 := t1) (t2 := t2) (zfar s1.heap.objs.size fun b hb => hb.elim (low1 b) (low2 b)), ⟨hz, hTI, ⟨_, _, hTO⟩, it1 _ _ g1, it2 _ _ g2⟩, fresh, q⟩
/-- the walk -/
theorem walk_zipS {K : PySem.W.Frag} {s1 s2 : Src} {xs ys : List V} {n : Nat} (hn : n = min xs.length ys.length) : Walk (ItzS K s1 s2) n (fun H => SrcAt K s1 H xs ∧ SrcAt K s2 H ys) (YPair (fun i => xs[i]?) (fun i => ys[i]?)) := by
  subst hn
  refine ⟨fun i H hi q => ⟨xs, ys, xs[i]'(by omega), ys[i]'(by omega), q.1, q.2, List.getElem?_eq_getElem (by omega), List.getElem?_eq_getElem (by omega)⟩, fun H q => ⟨xs, ys, q.1, q.2, by omega, by omega, by omega⟩, fun i H v H' _ q y => ?_⟩
  obtain ⟨T, x, z, h1, h2, h3, h4, h5⟩ := y
  exact ⟨T, x, z, h1, h2, h3, h4 xs q.1, h5 ys q.2⟩
end Lk
set_option Elab.async false
set_option linter.all false
set_option maxRecDepth 100000
set_option maxHeartbeats 4000000
/-! Part U: enumerate of a text. -/
namespace Lk
open PySem PySem.Spec PyProof.Rows L2
/-- the signs of a text, each in a new pair with its place -/
def ItE (z : Str) : It :=
  ⟨fun i _ => i < z.cps.size, fun i H v H' => ∃ T c, v = .ref T ∧ H T = none ∧ z.cps[i]? = some c ∧ H' = upd H T (.tup [.int (i : Nat), .str ⟨#[c]⟩]), fun i _ => z.cps.size ≤ i⟩
theorem turn_enumT {P : Program} {w : World} {K : PySem.W.Frag} {elts : List Expr} {kk : Nat} {tpos : Pos} (e it : Addr) (z : Str) (t : Tok) :
    Turn P w K (.Tuple elts kk tpos) (ItE z) [e, it] e (fun i h => i ≤ z.cps.size ∧ (∃ old, IsEnum h e it ((i : Nat) : Int) old) ∧ h.IsStrIter it (strIterType z) z t i ∧ e ≠ it) where
  mem := by simp
  obj := fun i h st b hb => by
    obtain ⟨_, ⟨old, he⟩, ⟨o, ho, hc, hd⟩, _⟩ := st
    have e' : b = e ∨ b = it := by simpa using hb
    rcases e' with z | z
    · rw [z]; exact ⟨_, he, fun v q => nomatch q⟩
    · rw [z]; exact ⟨o, ho, fun v q => by rw [hd] at q; cases q⟩
  keep := fun i h h' st k => let ⟨le, ⟨old, he⟩, ⟨o, ho, r⟩, hne⟩ := st; ⟨le, ⟨old, k e (by simp) _ he⟩, ⟨o, k it (by simp) _ ho, r⟩, hne⟩
  item := by
    intro X hP hw hK hc i pins s σ H E I hf st hg
    subst hP hw hK
    obtain ⟨le, ⟨old, he⟩, hit, hne⟩ := st
    have hg : i < z.cps.size := hg
    have hel : e < s.heap.objs.size := Heap.lt_size he
    have hil : it < s.heap.objs.size := by obtain ⟨_, q, _⟩ := hit; exact Heap.lt_size q
    refine wpAny_pyNext_enum_itemD (Draws.text (prog := X.prog) (w := X.w) (A := X.A.in1) (I.ok.hd hc) it z t) he hit hg hne (by simpa using hne) fun x h' tk px ho hit' hT hsz hk => ?_
    obtain ⟨c, u, hcx, rfl⟩ := px
    refine ⟨_, rfl, wpAny_letOwnedTupleGo_enum (s := { s with heap := h', toks := tk + 1 }) ho fun h'' he' sb => ?_⟩
    have hT2 := (sb.2 _ (Nat.ne_of_gt hel)).trans hT
    have new : ObjOk X.prog X.w (upd H s.heap.objs.size (.tup [.int (i : Nat), .str ⟨#[c]⟩])) h'' s.heap.objs.size (.tup [.int (i : Nat), .str ⟨#[c]⟩]) :=
      ⟨by show 2 ≤ sizeLine; decide, [.int i tk, .str ⟨#[c]⟩ u], .cons ⟨_, rfl⟩ (.cons ⟨_, rfl⟩ .nil), ⟨_, hT2, rfl, _, rfl⟩⟩
    have I1 : Inv X pins σ (upd H s.heap.objs.size (.tup [.int (i : Nat), .str ⟨#[c]⟩])) { s with heap := h'', toks := tk + 1 } :=
      I.turnedNew (ch := [e, it]) (fun b ob hb q => (sb.2 b (fun z => hb (by simp [z]))).trans (hk b ob (fun z => hb (by simp [z])) (fun z => hb (by simp [z])) q)) hf (Nat.le_refl _) new
    refine ⟨.ref s.heap.objs.size, _, I1, rfl, ⟨_, c, rfl, I.hok.fresh (Nat.le_refl _), hcx, rfl⟩, ⟨hg, ⟨.str ⟨#[c]⟩ u, ?_⟩, ?_, hne⟩, fun b hb => ?_⟩
    · have e1 : ((i + 1 : Nat) : Int) = (i : Int) + 1 := by omega
      rw [e1]; exact he'
    · obtain ⟨o, ho2, r⟩ := hit'
      exact ⟨o, (sb.2 it (Ne.symm hne)).trans ho2, r⟩
    · have hb' : b < s.heap.objs.size := by
        have e' : b = e ∨ b = it := by simpa using hb
        rcases e' with z | z
        · rw [z]; exact hel
        · rw [z]; exact hil
      rw [upd_ne (Nat.ne_of_lt hb')]
      exact (hf b hb).1
  done := by
    intro X hP hw hK hc i pins s σ H E I hf st hg
    subst hP hw hK
    obtain ⟨le, ⟨old, he⟩, hit, hne⟩ := st
    have hg : z.cps.size ≤ i := hg
    obtain rfl : i = z.cps.size := by omega
    obtain ⟨f0, f1, f2, f3, f4, f5⟩ := hf it (by simp)
    exact wpAny_pyNext_enum_endD (Draws.text (prog := X.prog) (w := X.w) (A := X.A.in1) (I.ok.hd hc) it z t) he hit fun h' eb => ⟨rfl, I.turned (t' := s.toks) (fun b o hb q => eb b o hb q) f0 f1 f3 f4 f5⟩
  self := fun A i s Q E st h => let ⟨_, ⟨_, he⟩, _⟩ := st; wpAny_pyIter_enum he h
def iEnumT (ta : TA) : TI := fun σ H R => ta σ H fun vs H1 => ∃ z, vs = [.str z] ∧ R (ItE z) H1
theorem pi_enumT {X : Cx} {e : Expr} {ta : TA} {p pos tpos : Pos} {elts : List Expr} {kk : Nat} (hg : Gl X "enumerate") (hm : X.mg "enumerate" = none) (ha : PA X [e] ta) (hs : starEach [e] X.env = [(false, eval e X.env)] := by rfl) :
    PI X (.Tuple elts kk tpos) (.Call (.Name "enumerate" p) [e] [] pos) (iEnumT ta) := by
  refine ⟨fun pins s σ H R I h => ?_⟩
  refine Call_ (ld_blt I hg hm boot_enumerate (PyProof.Rows.callWith_type1 (thn (ha.run pos pins s σ H _ I h) fun us s1 ⟨vs, H1, I1, r1, q1⟩ => ?_) hs rfl))
  obtain ⟨z, ex, q⟩ := q1
  subst ex
  cases r1 with
  | cons r rr =>
    cases rr
    obtain ⟨t, rfl⟩ := r
    refine call_enumerate_str fun h' he hit hsz hk => wpAny_pyIter_enum he ?_
    have I2 : Inv X pins σ H1 { s1 with heap := h' } := I1.kept (t' := s1.toks) hk
    refine ⟨s1.heap.objs.size + 1, [s1.heap.objs.size + 1, s1.heap.objs.size], _, _, H1, rfl, I2, turn_enumT (s1.heap.objs.size + 1) s1.heap.objs.size z t, ⟨Nat.zero_le _, ⟨.none, he⟩, hit, Nat.succ_ne_self _⟩, fun b hb => ?_, q⟩
    have e' : b = s1.heap.objs.size + 1 ∨ b = s1.heap.objs.size := by simpa using hb
    have hle : s1.heap.objs.size ≤ b := by
      rcases e' with z | z
      · rw [z]; exact Nat.le_add_right _ _
      · rw [z]; exact Nat.le_refl _
    exact I1.fpOk hle (I1.hok.fresh hle)
theorem walk_enumT {z : Str} : Walk (ItE z) z.cps.size (fun _ => True) (fun i H v H' => ∃ T c, v = .ref T ∧ H T = none ∧ z.cps[i]? = some c ∧ H' = upd H T (.tup [.int (i : Nat), .str ⟨#[c]⟩])) :=
  ⟨fun i _ hi _ => hi, fun _ _ => Nat.le_refl _, fun _ _ _ _ _ _ y => y⟩
end Lk
set_option Elab.async false
set_option linter.all false
set_option maxRecDepth 100000
set_option maxHeartbeats 4000000
set_option pp.maxSteps 1200
set_option pp.deepTerms false
namespace K6
open PySem PySem.Spec PyProof.Rows L2 Lk
section
variable {P : Program} {w : World} {K : PySem.W.Frag} {mg : Str → Option Value} {base : Heap} {f : Addr} {fd : FuncData}
abbrev Ans := List (KP × Vec)
def RelA (H : Hp) (v : V) (a : KP × Vec) : Prop := ∃ t, v = V.ref t ∧ H t = some (.tup [.str a.1.1, .str (stv a.2)])
theorem RelA.keep (H H' : Hp) (v : V) (a : KP × Vec) (k : Keep H H') (h : RelA H v a) : RelA H' v a := by
  obtain ⟨t, e, h⟩ := h
  exact ⟨t, e, k _ _ h fun xs z => by cases z⟩
/-- a tuple, with a dict of its own or surely without -/
def TupE (H : Hp) (r : Addr) (ts : List V) : Prop := H r = some (.tup ts) ∨ TupX H r ts
theorem TupE.same {H H' : Hp} {r : Addr} {ts : List V} (h : TupE H r ts) (s : Same H H') : TupE H' r ts := h.elim (fun h => .inl (s _ _ h)) fun h => .inr (h.same s)
theorem TupE.sq {K : PySem.W.Frag} {H : Hp} {r : Addr} {ts : List V} (h : TupE H r ts) : SqT K H r ts := h.elim (fun h => SqT.of h) fun h => h.sq
def AnsAt (H : Hp) (r : Addr) (As : Ans) : Prop := ∃ ts, TupE H r ts ∧ Paired (RelA H) ts As
theorem AnsAt.same {H H' : Hp} {r : Addr} {As : Ans} (h : AnsAt H r As) (s : Same H H') : AnsAt H' r As := by
  obtain ⟨ts, e, p⟩ := h
  exact ⟨ts, e.same s, Paired.mapP p fun v a r => RelA.keep _ _ _ _ (.of s) r⟩
/-- whether a record gives these answers -/
def fitB (L : Lore) (As : Ans) (v : Vec) : Bool := As.all fun a => decide (ansV L a.1 v = a.2)
/-- all records that do -/
def fitV (L : Lore) (As : Ans) : List Vec := (vL L.parts.length).filter (fitB L As)
end
end K6
set_option Elab.async false
set_option linter.all false
set_option maxRecDepth 100000
set_option maxHeartbeats 4000000
set_option pp.maxSteps 1200
set_option pp.deepTerms false
namespace K6
open PySem PySem.Spec PyProof.Rows L2 Lk
section
variable {P : Program} {w : World} {K : PySem.W.Frag} {mg : Str → Option Value} {base : Heap} {f : Addr} {fd : FuncData}
/-- the spots of the answers with their values -/
def valuedL (As : Ans) : List (Spot × Bool) := As.flatMap fun a => (List.range a.2.length).map fun i => ((a.1.1, i), a.2.getD i false)
def RelW2 (H : Hp) (v : V) (r : Spot × Bool) : Prop := ∃ t u, v = V.ref t ∧ H t = some (.tup [.ref u, .str (stv [r.2])]) ∧ H u = some (.tup [.str r.1.1, .int (r.1.2 : Int)])
theorem RelW2.keep (H H' : Hp) (v : V) (r : Spot × Bool) (k : Keep H H') (h : RelW2 H v r) : RelW2 H' v r := by
  obtain ⟨t, u, e, h1, h2⟩ := h
  exact ⟨t, u, e, k _ _ h1 (fun xs z => by cases z), k _ _ h2 (fun xs z => by cases z)⟩
end
end K6
set_option Elab.async false
set_option linter.all false
set_option maxRecDepth 100000
set_option maxHeartbeats 4000000
set_option pp.maxSteps 1200
set_option pp.deepTerms false
namespace K6
open PySem PySem.Spec PyProof.Rows L2 Lk
section
variable {P : Program} {w : World} {K : PySem.W.Frag} {mg : Str → Option Value} {base : Heap} {f : Addr} {fd : FuncData}
def cntP (p : Str) (pcs : List (List Str)) : Nat := (pcs.filter fun q => decide (p ∈ q)).length
def oddL (ps : List Str) (pcs : List (List Str)) : List Str := ps.filter fun p => decide (cntP p pcs % 2 = 1)
theorem sub_key {α β : Type} [DecidableEq β] (f : α → β) {ss zs : List α} (h : ss.Sublist zs) : (zs.map f).Nodup → zs.filter (fun z => decide (f z ∈ ss.map f)) = ss := by
  induction h with
  | slnil => intro _; rfl
  | cons a h ih =>
    intro nd
    have n2 := List.nodup_cons.mp nd
    rw [List.filter_cons_of_neg]
    · exact ih n2.2
    · intro m
      exact n2.1 ((h.map f).subset (by simpa using m))
  | @cons_cons l1 l2 a h ih =>
    intro nd
    have n2 := List.nodup_cons.mp nd
    rw [List.filter_cons_of_pos (by simp)]
    have e : l2.filter (fun z => decide (f z ∈ (a :: l1).map f)) = l2.filter (fun z => decide (f z ∈ l1.map f)) := List.filter_congr fun z hz => by
      have : f z ≠ f a := fun e => n2.1 (e ▸ List.mem_map.mpr ⟨z, hz, rfl⟩)
      simp [this]
    rw [e, ih n2.2]
/-- what a torn sum is -/
structure TornOk (L : Lore) (As : Ans) (ss : List Spot) : Prop where
  sub : ss.Sublist (spotsIn L (As.map (·.1.1)))
  none : oddL L.parts (ss.map (pieceOf L)) = []
  odd : ((valuedL As).filter fun r => r.2 && decide (r.1 ∈ ss)).length % 2 = 1
end
end K6
set_option Elab.async false
set_option linter.all false
set_option maxRecDepth 100000
set_option maxHeartbeats 4000000
set_option pp.maxSteps 1200
set_option pp.deepTerms false
namespace K6
open PySem PySem.Spec PyProof.Rows L2 Lk
section
variable {P : Program} {w : World} {K : PySem.W.Frag} {mg : Str → Option Value} {base : Heap} {f : Addr} {fd : FuncData}
/-- what is told of answers -/
def ToldAt (H : Hp) (q : Addr) (L : Lore) (As : Ans) : Prop :=
  (fitV L As = [] ∧ ∃ p us ss, H q = some (.tup [.str "torn", .ref p]) ∧ H p = some (.tup us) ∧ Paired (RelS H) us ss ∧ TornOk L As ss) ∨
  (∃ v, fitV L As = [v] ∧ H q = some (.tup [.str "record", .str (stv v)])) ∨
  (∃ v w l, fitV L As = v :: w :: l ∧ H q = some (.tup [.str "open", .str (stv v), .str (stv w)]))
theorem ToldAt.same {H H' : Hp} {q : Addr} {L : Lore} {As : Ans} (h : ToldAt H q L As) (s : Same H H') : ToldAt H' q L As := by
  rcases h with ⟨h1, p, us, ss, h2, h3, h4, h5⟩ | ⟨v, h1, h2⟩ | ⟨v, w, l, h1, h2⟩
  · exact .inl ⟨h1, p, us, ss, s _ _ h2, s _ _ h3, Paired.mapP h4 fun v r h => RelS.keep _ _ _ _ (.of s) h, h5⟩
  · exact .inr (.inl ⟨v, h1, s _ _ h2⟩)
  · exact .inr (.inr ⟨v, w, l, h1, s _ _ h2⟩)
end
end K6
set_option Elab.async false
set_option linter.all false
set_option maxRecDepth 100000
set_option maxHeartbeats 4000000
/-! Part K: ranges as values, walked. -/
namespace Lk
open PySem PySem.Spec PyProof.Rows L2
theorem cr_range1 {X : Cx} : CallR X (.type "range") (fun vs H Q => ∃ j, vs = [V.int j] ∧ ∀ p, H p = none → Q (.ref p) (upd H p (.rng 0 j))) := by
  intro pins s σ H vs us Q I r h
  obtain ⟨j, rfl, q⟩ := h
  obtain ⟨u1, rfl, rj⟩ := vals1 r
  obtain ⟨t, rfl⟩ := rj
  refine call_range_1 ⟨.ref s.heap.objs.size, upd H s.heap.objs.size (.rng 0 j), I.laid (fun b o e => Heap.get?_push_of_some _ e) (Nat.le_refl _) ?_, rfl, q _ (I.hok.fresh (Nat.le_refl _))⟩
  exact ⟨_, _, _, Heap.get?_push_size _ rfl⟩
def iRngV (tl : TE) : TI := fun σ H R => tl σ H fun x H1 => ∃ a lo hi, x = .ref a ∧ H1 a = some (.rng lo hi) ∧ (-(2 ^ 62) ≤ lo ∧ lo < 2 ^ 62 ∧ -(2 ^ 62) ≤ hi ∧ hi < 2 ^ 62) ∧ R (Itr lo (hi - lo).toNat) H1
theorem pi_rng {X : Cx} {tg l : Expr} {tl : TE} (hl : PE X l tl) : PI X tg l (iRngV tl) := by
  refine ⟨fun pins s σ H R I h => ?_⟩
  refine thn (hl.run pins s σ H _ I h) fun v s1 ⟨x, H1, I1, r1, q1⟩ => ?_
  obtain ⟨a, lo, hi, e, ha, ⟨b1, b2, b3, b4⟩, q⟩ := q1
  subst e
  cases r1
  obtain ⟨t, u, w', ho⟩ := I1.hok a _ ha
  refine wpAny_pyIter_range (r := a) (a := lo) (b := hi) (c := 1) (t := t) (u := u) (v := w') ho (small_one b1 b2 b3 b4) ?_
  refine ⟨s1.heap.objs.size, [s1.heap.objs.size], _, _, H1, rfl, I1.kept (t' := s1.toks) fun b o e => Heap.get?_push_of_some _ e, turn_range _ lo (hi - lo).toNat, ?_, fun b hb => ?_, q⟩
  · have e1 : lo + ((0 : Nat) : Int) * 1 = lo := by simp
    have e2 : (((hi - lo).toNat : Nat) : Int) - ((0 : Nat) : Int) = Builtin.Range.rangeSize lo hi 1 := by rw [rangeSize_one]; split <;> omega
    show IsRangeIter _ _ (lo + ((0 : Nat) : Int) * 1) ((((hi - lo).toNat : Nat) : Int) - ((0 : Nat) : Int)) 1
    rw [e1, e2]
    exact Heap.get?_push_size _ rfl
  · have e : b = s1.heap.objs.size := by simpa using hb
    subst e
    exact I1.fpOk (Nat.le_refl _) (I1.hok.fresh (Nat.le_refl _))
end Lk
set_option Elab.async false
set_option linter.all false
set_option maxRecDepth 100000
set_option maxHeartbeats 4000000
/-! Part P: dict(t), t a tuple of pairs. -/
namespace Lk
open PySem PySem.Spec PyProof.Rows L2
theorem pairs_list : ∀ {prs : List (L2.Key × Value)} {R : Nat → L2.Key × Value → Value → Prop} , (∀ (j : Nat) (q : L2.Key × Value), prs[j]? = some q → ∃ u, R j q u) → ∃ us : List Value, us.length = prs.length ∧ ∀ (j : Nat) (q : L2.Key × Value), prs[j]? = some q → ∃ u, us[j]? = some u ∧ R j q u
  | [], _, _ => ⟨[], rfl, fun j q e => by simp at e⟩
  | q :: prs, R, h => by
    obtain ⟨u, hu⟩ := h 0 q rfl
    obtain ⟨us, hl, hs⟩ := pairs_list (prs := prs) (R := fun j q u => R (j + 1) q u) fun j p e => h (j + 1) p (by simpa using e)
    refine ⟨u :: us, by simp [hl], fun j p e => ?_⟩
    cases j with
    | zero =>
      have e' : q = p := Option.some.inj e
      subst e'
      exact ⟨u, rfl, hu⟩
    | succ j =>
      obtain ⟨u', h1, h2⟩ := hs j p (by simpa using e)
      exact ⟨u', by simpa using h1, h2⟩
theorem call_dictTX {X : Cx} (hcalm : X.calm = true) : CallR X (.type "dict") (fun xs H Q => ∃ (a : Addr) (ps : List Addr) (kvs : List (L2.Key × V)), xs = [.ref a] ∧ TupX H a (ps.map V.ref) ∧ Paired (fun p kv => SqT X.K H p [kV kv.1, kv.2]) ps kvs ∧
    ∀ p, H p = none → Q (.ref p) (upd H p (.dK (mergeK [] kvs)))) := by
  intro pins s σ H xs us Q I r q
  obtain ⟨a, ps, kvs, ex, hq, hp, q⟩ := q
  subst ex
  obtain ⟨u, eu, rx⟩ := vals1 r
  subst eu
  cases rx
  obtain ⟨ob, ea, ec, ed⟩ := id hq
  obtain ⟨at_, hz, its, rv, tp⟩ := (show ObjOk X.prog X.w H s.heap a (.frz ob (.tup (ps.map V.ref))) from I.hok a _ ea)
  have ei := refs_at rv
  subst ei
  rw [List.length_map] at hz
  obtain ⟨prs, rel, hl, hpr⟩ := pairs_of I hp
  obtain ⟨vs, vl, hv⟩ := pairs_list (R := fun j q u => ∃ b, ps[j]? = some b ∧ IsTup s.heap b #[u, q.2] ∧ keyIs q.1 u = true) fun j q e => by
    obtain ⟨b, u, e1, e2, e3⟩ := hpr j q e
    exact ⟨u, b, e1, e2, e3⟩
  have zl : (vs.zip (prs.map (·.2))).length = ps.length := by rw [List.length_zip, List.length_map, vl, hl, Nat.min_self]
  have zat : ∀ j key v, (vs.zip (prs.map (·.2)))[j]? = some (key, v) → ∃ k b, prs[j]? = some (k, v) ∧ ps[j]? = some b ∧ IsTup s.heap b #[key, v] ∧ keyIs k key = true := fun j key v e => by
    obtain ⟨h1, h2⟩ := List.getElem?_zip_eq_some.mp e
    rw [List.getElem?_map] at h2
    cases z : prs[j]? with
    | none => rw [z] at h2; cases h2
    | some q =>
      rw [z] at h2
      have h9 : q.2 = v := Option.some.inj (show some q.2 = some v from h2)
      clear h2
      obtain ⟨u, a1, b, a2, a3, a4⟩ := hv j q z
      rw [a1] at h1
      obtain rfl : u = key := Option.some.inj h1
      subst h9
      exact ⟨q.1, b, z, a2, a3, a4⟩
  obtain ⟨o2, ho2, hc2, n2, hd2⟩ := id tp
  have oe : o2 = ob := by rw [at_] at ho2; exact (Option.some.inj ho2).symm
  subst oe
  have P := PairArg.tuple (prog := X.prog) (w := X.w) a (ps.map Value.ref).toArray (fun j => ps.getD j 0) (vs.zip (prs.map (·.2)))
  have OK : PlainSeq "tuple" s.heap a (ps.map Value.ref).toArray ∧ PairItems s.heap (ps.map Value.ref).toArray (fun j => ps.getD j 0) (vs.zip (prs.map (·.2))) := by
    refine ⟨⟨_, n2, at_, ec, ed, hd2⟩, by rw [zl]; simp, fun j k v e => ?_⟩
    obtain ⟨k', b, h1, h2, h3, h4⟩ := zat j k v e
    have hg : ps.getD j 0 = b := by rw [List.getD_eq_getElem?_getD, h2]; rfl
    refine ⟨by simp [h2], ?_⟩
    show PairAt s.heap (ps.getD j 0) k v
    rw [hg]
    exact .inl h3
  refine PySem.call_dict_pairs (knd := mixKind X.prog X.w) (kvs := prs) P (I.ok.hd hcalm) OK ⟨by rw [zl, hl], fun i key v e => ?_⟩ (by rw [zl]; exact hz) fun h' tk hd' k => ?_
  · obtain ⟨k', b, h1, _, _, h4⟩ := zat i key v e
    exact ⟨k', h1, h4⟩
  · have hm : (s.heap.objs.size == sysModules) = false := beq_eq_false_iff_ne.mpr (Nat.ne_of_gt I.big)
    have hlen : (mergeK [] kvs).length ≤ sizeLine := by
      refine Nat.le_trans (length_mergeK kvs []) ?_
      rw [List.length_nil, Nat.zero_add, rel.length, hl]
      exact hz
    exact ⟨.ref s.heap.objs.size, upd H s.heap.objs.size (.dK (mergeK [] kvs)), I.laid (t' := tk) (fun b o e => k b o (by simp) e) (Nat.le_refl _) (show ObjOk X.prog X.w _ _ _ (.dK (mergeK [] kvs)) from ⟨hlen, hm, merged [] prs, KV.merge rel .nil, hd'⟩), rfl, q _ (I.hok.fresh (Nat.le_refl _))⟩
end Lk
set_option Elab.async false
set_option linter.all false
set_option maxRecDepth 100000
set_option maxHeartbeats 1000000
/-! Part Q: sorted of pairs of a length and the list, or tuple, of ints that has it. -/
namespace Lk
open PySem PySem.Spec PyProof.Rows L2
/-- a list (or a tuple) of these ints -/
def SeqI (tup : Bool) (h : Heap) (b : Addr) (ns : List Int) : Prop := ∃ items : Array Value, (if tup = true then h.IsTuple b items else h.IsList b items) ∧ IntsAre items.toList ns
/-- the pair of its length and it -/
def IsLen (tup : Bool) (h : Heap) (v : Value) (ns : List Int) : Prop := ∃ a o t b m, v = .ref a ∧ h.get? a = some o ∧ o.cls = .type "tuple" ∧ o.data = .seq #[.int (ns.length : Int) t, .ref b] m ∧ SeqI tup h b ns
theorem SeqI.keeps {tup : Bool} {h h' : Heap} {b : Addr} {ns : List Int} (x : SeqI tup h b ns) (k : ∀ o, h.get? b = some o → h'.get? b = some o) : SeqI tup h' b ns := by
  obtain ⟨items, q, r⟩ := x
  refine ⟨items, ?_, r⟩
  cases tup with
  | true =>
    obtain ⟨o, e, y⟩ := q
    exact ⟨o, k o e, y⟩
  | false =>
    obtain ⟨o, e, y⟩ := q
    exact ⟨o, k o e, y⟩
def ltLen (ns ms : List Int) : Bool := if ns.length = ms.length then HT.lexLt ns ms else decide (ns.length < ms.length)
theorem lexLt_first : ∀ (ns ms : List Int) (h : ns.length = ms.length), SeqAt.firstLt (fun j => ns.getD j 0 == ms.getD j 0) (fun j => decide (ns.getD j 0 < ms.getD j 0)) false (List.range ns.length) = HT.lexLt ns ms := by
  have go : ∀ (ns ms : List Int) (pre1 pre2 : List Int), ns.length = ms.length → pre1.length = pre2.length → SeqAt.firstLt (fun j => (pre1 ++ ns).getD j 0 == (pre2 ++ ms).getD j 0) (fun j => decide ((pre1 ++ ns).getD j 0 < (pre2 ++ ms).getD j 0)) false (List.range' pre1.length ns.length) = HT.lexLt ns ms := by
    intro ns
    induction ns with
    | nil =>
      intro ms p1 p2 h hp
      match ms, h with
      | [], _ => rfl
    | cons x xs ih =>
      intro ms p1 p2 h hp
      match ms, h with
      | y :: ys, h =>
        have hx : (p1 ++ x :: xs).getD p1.length 0 = x := by simp [List.getD_eq_getElem?_getD]
        have hy : (p2 ++ y :: ys).getD p1.length 0 = y := by rw [hp]; simp [List.getD_eq_getElem?_getD]
        have ih := ih ys (p1 ++ [x]) (p2 ++ [y]) (Nat.succ.inj h) (by simp [hp])
        rw [List.append_assoc, List.append_assoc] at ih
        rw [List.length_cons, List.range'_succ]
        by_cases e : x = y
        · rw [SeqAt.firstLt_yes (by rw [hx, hy, e]; simp), HT.lexLt_cons, if_pos e, ← ih, List.length_append]
          rfl
        · rw [SeqAt.firstLt_no (by rw [hx, hy]; simpa using e), HT.lexLt_cons, if_neg e, hx, hy]
  intro ns ms h
  have := go ns ms [] [] h rfl
  rw [List.range_eq_range']
  exact this
theorem all_eq : ∀ (ns ms : List Int), ns.length = ms.length → (List.range ns.length).all (fun j => ns.getD j 0 == ms.getD j 0) = decide (ns = ms) := fun ns ms h => by
  rw [Bool.eq_iff_iff, List.all_eq_true, decide_eq_true_iff]
  constructor
  · intro g
    apply List.ext_getElem?
    intro i
    by_cases hi : i < ns.length
    · have := g i (List.mem_range.mpr hi)
      have this : ns.getD i 0 = ms.getD i 0 := by simpa using this
      rw [List.getD_eq_getElem?_getD, List.getD_eq_getElem?_getD, List.getElem?_eq_getElem hi, List.getElem?_eq_getElem (by omega)] at this
      rw [List.getElem?_eq_getElem hi, List.getElem?_eq_getElem (by omega)]
      exact congrArg some this
    · rw [List.getElem?_eq_none (by omega), List.getElem?_eq_none (by omega)]
  · intro e i _
    rw [e]
    simp
theorem ints_getL : ∀ {l : List Value} {ns : List Int} {j : Nat}, IntsAre l ns → (hj : j < l.length) → ∃ t, l[j] = .int (ns.getD j 0) t
  | _, _, _, .nil, hj => absurd hj (Nat.not_lt_zero _)
  | _, _, 0, .cons n t r, hj => ⟨t, rfl⟩
  | _, _, j + 1, .cons n t r, hj => by
    obtain ⟨t', e⟩ := ints_getL r (Nat.lt_of_succ_lt_succ hj)
    exact ⟨t', by simpa using e⟩
theorem ints_get {its : Array Value} {ns : List Int} (h : IntsAre its.toList ns) {j : Nat} (hj : j < its.size) : ∃ t, its[j] = .int (ns.getD j 0) t := by
  obtain ⟨l⟩ := its
  exact ints_getL (l := l) h hj
theorem ints_len : ∀ {l : List Value} {ns : List Int}, IntsAre l ns → l.length = ns.length
  | _, _, .nil => rfl
  | _, _, .cons n t r => by rw [List.length_cons, List.length_cons, ints_len r]
theorem ints_size {its : Array Value} {ns : List Int} (h : IntsAre its.toList ns) : its.size = ns.length := by
  rw [← ints_len h, Array.length_toList]
theorem ints_one {l : List Value} {ns ms : List Int} (h : IntsAre l ns) (g : IntsAre l ms) : ns = ms := (SrtO.iv_ints h).symm.trans (SrtO.iv_ints g)
section
variable {A : Around} {s : Shared}
theorem seq_eq {tup : Bool} {l b : Addr} {ns ms : List Int} (hl : SeqI tup s.heap l ns) (hb : SeqI tup s.heap b ms) (he : ns.length = ms.length) (hu : A.units < cLine) : SeqAt.EqAt A s (.ref l) (.ref b) (decide (ns = ms)) := by
  obtain ⟨i1, q1, r1⟩ := hl
  obtain ⟨i2, q2, r2⟩ := hb
  have z1 := ints_size r1
  have z2 := ints_size r2
  have sz : i1.size = i2.size := by rw [z1, z2, he]
  have ee : ∀ j (h1 : j < i1.size) (h2 : j < i2.size), SeqAt.EqAt A.in1 s i1[j] i2[j] ((fun j => ns.getD j 0 == ms.getD j 0) j) := fun j h1 h2 => by
    obtain ⟨t, e1⟩ := ints_get r1 h1
    obtain ⟨u, e2⟩ := ints_get r2 h2
    rw [e1, e2]
    exact SeqAt.EqAt.int_int _ _ _ _
  by_cases lb : l = b
  · subst lb
    have : ns = ms := by
      cases tup with
      | true =>
        obtain ⟨o, e, _, n, d⟩ := q1
        obtain ⟨o2, e2, _, n2, d2⟩ := q2
        rw [e] at e2
        cases e2
        rw [d] at d2
        cases d2
        exact ints_one r1 r2
      | false =>
        obtain ⟨o, e, _, n, d⟩ := q1
        obtain ⟨o2, e2, _, n2, d2⟩ := q2
        rw [e] at e2
        cases e2
        rw [d] at d2
        cases d2
        exact ints_one r1 r2
    rw [decide_eq_true this]
    exact SeqAt.EqAt.same _
  · refine SeqAt.EqAt.of_refs lb ?_
    rw [← all_eq ns ms he]
    cases tup with
    | true =>
      have := SeqAt.RcAt.tuples q1 q2 hu ee
      rw [← sz, Nat.min_self, z1] at this
      simpa using this
    | false =>
      have := SeqAt.RcAt.lists q1 q2 sz hu ee
      rw [z1] at this
      exact this
theorem seq_lt {tup : Bool} {l b : Addr} {ns ms : List Int} (hl : SeqI tup s.heap l ns) (hb : SeqI tup s.heap b ms) (he : ns.length = ms.length) (hu : A.units < cLine) : SeqAt.RcLt A s (.ref l) (.ref b) (HT.lexLt ns ms) := by
  obtain ⟨i1, q1, r1⟩ := hl
  obtain ⟨i2, q2, r2⟩ := hb
  have z1 := ints_size r1
  have z2 := ints_size r2
  have sz : i1.size = i2.size := by rw [z1, z2, he]
  have ee : ∀ j (h1 : j < i1.size) (h2 : j < i2.size), SeqAt.EqAt A.in1 s i1[j] i2[j] ((fun j => ns.getD j 0 == ms.getD j 0) j) := fun j h1 h2 => by
    obtain ⟨t, e1⟩ := ints_get r1 h1
    obtain ⟨u, e2⟩ := ints_get r2 h2
    rw [e1, e2]
    exact SeqAt.EqAt.int_int _ _ _ _
  have rr : ∀ j (h1 : j < i1.size) (h2 : j < i2.size), (fun j => ns.getD j 0 == ms.getD j 0) j = false → SeqAt.RcLt A.in1 s i1[j] i2[j] ((fun j => decide (ns.getD j 0 < ms.getD j 0)) j) := fun j h1 h2 _ => by
    obtain ⟨t, e1⟩ := ints_get r1 h1
    obtain ⟨u, e2⟩ := ints_get r2 h2
    rw [e1, e2]
    exact fun prog w E Q q => PyProof.Rows.lt_int q
  have fin : decide (i1.size < i2.size) = false := decide_eq_false (by omega)
  cases tup with
  | true =>
    have := SeqAt.RcLt.tuples q1 q2 hu ee rr
    rw [fin, ← sz, Nat.min_self, z1, lexLt_first ns ms he] at this
    exact this
  | false =>
    have := SeqAt.RcLt.lists q1 q2 hu ee rr
    rw [fin, ← sz, Nat.min_self, z1, lexLt_first ns ms he] at this
    exact this
end
/-! ### the order -/
theorem lexLt_iff : ∀ {ns ms : List Int}, HT.lexLt ns ms = true → HT.lexLt ms ns = false
  | [], [], h => by cases h
  | [], _ :: _, _ => rfl
  | _ :: _, [], h => by cases h
  | x :: xs, y :: ys, h => by
    rw [HT.lexLt_cons] at h ⊢
    by_cases e : x = y
    · rw [if_pos e] at h
      rw [if_pos e.symm]
      exact lexLt_iff h
    · rw [if_neg e] at h
      rw [if_neg (fun z => e z.symm)]
      have := of_decide_eq_true h
      exact decide_eq_false (by omega)
theorem lexLt_tr : ∀ {xs ys zs : List Int}, HT.lexLt ys xs = false → HT.lexLt zs ys = false → HT.lexLt zs xs = false
  | [], _, [], _, _ => rfl
  | [], _, _ :: _, _, _ => rfl
  | _ :: _, [], _, h, _ => by cases h
  | _ :: _, _ :: _, [], _, h => by cases h
  | x :: xs, y :: ys, z :: zs, h1, h2 => by
    rw [HT.lexLt_cons] at h1 h2 ⊢
    by_cases e1 : y = x
    · rw [if_pos e1] at h1
      by_cases e2 : z = y
      · rw [if_pos e2] at h2
        rw [if_pos (e2.trans e1)]
        exact lexLt_tr h1 h2
      · rw [if_neg e2] at h2
        have := of_decide_eq_false h2
        rw [if_neg (fun q => e2 (q.trans e1.symm))]
        exact decide_eq_false (by omega)
    · rw [if_neg e1] at h1
      have g1 := of_decide_eq_false h1
      by_cases e2 : z = y
      · rw [if_neg (fun q => e1 (e2.symm.trans q))]
        exact decide_eq_false (by omega)
      · rw [if_neg e2] at h2
        have g2 := of_decide_eq_false h2
        by_cases e3 : z = x
        · exact absurd (show y = x by omega) e1
        · rw [if_neg e3]
          exact decide_eq_false (by omega)
theorem swo_len (k : Value → List Int) : SrtO.Swo fun v u => ltLen (k v) (k u) := by
  refine ⟨fun x y h => ?_, fun x y z h1 h2 => ?_⟩
  · unfold ltLen at h ⊢
    by_cases e : (k x).length = (k y).length
    · rw [if_pos e] at h
      rw [if_pos e.symm]
      exact lexLt_iff h
    · rw [if_neg e] at h
      rw [if_neg (fun q => e q.symm)]
      have := of_decide_eq_true h
      exact decide_eq_false (by omega)
  · unfold ltLen at h1 h2 ⊢
    by_cases e1 : (k y).length = (k x).length
    · rw [if_pos e1] at h1
      by_cases e2 : (k z).length = (k y).length
      · rw [if_pos e2] at h2
        rw [if_pos (e2.trans e1)]
        exact lexLt_tr h1 h2
      · rw [if_neg e2] at h2
        have := of_decide_eq_false h2
        rw [if_neg (fun q => e2 (q.trans e1.symm))]
        exact decide_eq_false (by omega)
    · rw [if_neg e1] at h1
      have g1 := of_decide_eq_false h1
      by_cases e2 : (k z).length = (k y).length
      · rw [if_neg (fun q => e1 (e2.symm.trans q))]
        exact decide_eq_false (by omega)
      · rw [if_neg e2] at h2
        have g2 := of_decide_eq_false h2
        rw [if_neg (by omega)]
        exact decide_eq_false (by omega)
section
variable {prog : Program} {w : World} {A : Around} {s : Shared}
theorem len_cmp {tup : Bool} {vs : List Value} {k : Value → List Int} (hu : A.units < cLine) (hp : ∀ v ∈ vs, IsLen tup s.heap v (k v)) : SrtO.Cmp prog w A s (tuples' true) (fun p => p.1 ∈ vs) (SrtO.lt2 fun v u => ltLen (k v) (k u)) := by
  intro p q hm hm'
  have h1 := hp _ hm
  have h2 := hp _ hm'
  show wpAny (model prog w) A (keyLt' (tuples' true) p.1 q.1) (fun r s' => s' = s ∧ r = ltLen (k p.1) (k q.1)) (fun _ _ => False) s
  unfold ltLen
  generalize k p.1 = x at h1 ⊢
  generalize k q.1 = y at h2 ⊢
  obtain ⟨a, o, t, b, n, e, ho, hc, hd, hb⟩ := h1
  obtain ⟨a', o', t', b', n', e', ho', hc', hd', hb'⟩ := h2
  rw [e, e']
  refine PySem.W.kat_lt ho hd ho' hd' ?_
  show PySem.W.KatLex prog w A true (decide (2 < 2)) _ [(.int (x.length : Int) t, .int (y.length : Int) t'), (.ref b, .ref b')] 0 s
  refine PySem.W.kat_cons (SeqAt.EqAt.int_int _ t _ t' prog w _ _ ?_)
  refine PySem.W.kat_go (fun e1 => ?_) (fun e1 => ?_)
  · have ex : x.length = y.length := by
      have : (x.length : Int) = (y.length : Int) := by simpa using e1
      omega
    rw [if_pos ex]
    refine PySem.W.kat_yes (PySem.W.kat_cons (seq_eq hb hb' ex hu prog w _ _ ?_))
    refine PySem.W.kat_go (fun e2 => ?_) (fun e2 => ?_)
    · have ey : x = y := of_decide_eq_true e2
      have irr : HT.lexLt x y = false := by
        rw [ey]
        cases h : HT.lexLt y y with
        | false => rfl
        | true => exact h.symm.trans (lexLt_iff h)
      exact PySem.W.kat_yes (PySem.W.kat_nil ⟨rfl, irr.symm⟩)
    · refine PySem.W.kat_no (PySem.W.kat_one _ _ (seq_lt hb hb' ex hu prog w _ _ ?_))
      exact (show s = s ∧ HT.lexLt x y = HT.lexLt x y from ⟨rfl, rfl⟩)
  · have ex : ¬ x.length = y.length := fun z => by
      rw [z] at e1
      simp at e1
    rw [if_neg ex]
    refine PySem.W.kat_no (oneLt_int ⟨rfl, ?_⟩)
    rw [Bool.eq_iff_iff, decide_eq_true_iff, decide_eq_true_iff]
    omega
theorem IsLen.keeps {tup : Bool} {h h' : Heap} {v : Value} {ns : List Int} (p : IsLen tup h v ns) (k : ∀ b o, h.get? b = some o → h'.get? b = some o) : IsLen tup h' v ns := by
  obtain ⟨a, o, t, b, m, e, ho, hc, hd, hb⟩ := p
  exact ⟨a, o, t, b, m, e, k _ _ ho, hc, hd, hb.keeps fun o e => k _ _ e⟩
theorem len_firsts {tup : Bool} {h : Heap} : ∀ {vs : List Value}, (∀ v ∈ vs, ∃ ns, IsLen tup h v ns) → ∃ fs : List Value, PySem.W.KatTups h vs fs ∧ fs.length = vs.length ∧ ∀ f ∈ fs, ∃ x t, f = Value.int x t
  | [], _ => ⟨[], PySem.W.KatTups.nil, rfl, fun _ hm => by simp at hm⟩
  | v :: vs, hp => by
    obtain ⟨fs, h1, h2, h3⟩ := len_firsts (vs := vs) fun v' hm => hp v' (List.mem_cons_of_mem _ hm)
    obtain ⟨ns, a, o, t, b, m, e, ho, hc, hd, hb⟩ := hp v List.mem_cons_self
    refine ⟨.int (ns.length : Int) t :: fs, ⟨⟨a, o, _, m, e, ho, hc, hd, rfl⟩, h1⟩, by rw [List.length_cons, List.length_cons, h2], fun f hf => ?_⟩
    rcases List.mem_cons.mp hf with rfl | hf
    · exact ⟨_, _, rfl⟩
    · exact h3 f hf
/-- sorted(l) of such pairs -/
theorem sorted_lens {tup : Bool} {l : Addr} {vs : List Value} {k : Value → List Int} {E : Value → Shared → Prop} {Q : Value → Shared → Prop} (hu : A.in1.in1.units < cLine) (hl : s.heap.IsList l vs.toArray) (hz : vs.length ≤ sizeLine) (hp : ∀ v ∈ vs, IsLen tup s.heap v (k v))
    (h : ∀ (h' : Heap) (d : Addr) (out : List Value), SrtO.Srtd (fun v u => ltLen (k v) (k u)) out → SrtO.Stb (fun v u => ltLen (k v) (k u)) out vs → (∀ b o, s.heap.get? b = some o → h'.get? b = some o) → s.heap.objs.size ≤ d → (∃ n, h'.get? d = some (seqObj "list" out.toArray n)) → Q (.ref d) { s with heap := h' }) :
    wpAny (model prog w) A (call (.builtin "sorted") [.ref l]) Q E s := by
  refine SrtO.sorted_ord (swo_len k) hl hz (fun h2 h₁ a ha kk => ?_) fun out hs hb => ?_
  · intro h' keep
    have hp' : ∀ v ∈ vs, IsLen tup h' v (k v) := fun v hm => (hp v hm).keeps fun b o e => keep b o (kk b o e).1 (kk b o e).2
    obtain ⟨fs, g1, g2, g3⟩ := len_firsts fun v hm => ⟨_, hp' v hm⟩
    refine ⟨tuples' true, fun Q E hq => ?_, len_cmp hu hp'⟩
    refine PySem.W.kat_kind (T := .type "int") g1 (by omega) (fun f hm => ?_) (by rfl) ?_
    · obtain ⟨x, t, rfl⟩ := g3 f hm
      exact PySem.W.Looks.now
    · have e : (Value.type "int" != Value.type "tuple") = true := by first | decide +kernel | rfl | decide
      rw [e]
      exact hq
  · exact h _ _ out hs hb (fun b o e => sortedAll_old e) (Nat.le_succ _) (sortedAll_at s.heap vs out.toArray)
end
/-- sorted(xs), xs a list of such pairs (k says which): a new list, sorted, equal ones in their order -/
def rSortLen (K : PySem.W.Frag) (tup : Bool) : List V → Hp → VK → Prop := fun vs H Q => ∃ (a : Addr) (xs : List V) (k : V → List Int), vs = [V.ref a] ∧ SqL K H a xs ∧
  (∀ x ∈ xs, ∃ t b, x = V.ref t ∧ H t = some (.tup [.int ((k x).length : Int), .ref b]) ∧ (if tup = true then SqT K H b ((k x).map V.int) else SqL K H b ((k x).map V.int))) ∧
  ∀ ys p, SrtO.Srtd (fun x y => ltLen (k x) (k y)) ys → ys.Perm xs → H p = none → Q (.ref p) (upd H p (.lst ys))
theorem cr_sortedLen {X : Cx} {tup : Bool} (hu : X.A.units + 8 < cLine) : CallR X (.builtin "sorted") (rSortLen X.K tup) := by
  intro pins s σ H vs us Q I r h
  obtain ⟨a, xs, k, rfl, hs, hx, q⟩ := h
  obtain ⟨its, rv, hl, hz⟩ := I.list hs
  obtain ⟨u, rfl, ru⟩ := vals1 r
  obtain rfl : u = Value.ref a := ru
  obtain ⟨e1, e2⟩ := refs_back rv fun x m => by
    obtain ⟨t, b, e, _⟩ := hx x m
    exact ⟨t, e⟩
  refine sorted_lens (tup := tup) (k := fun u => k (backV u)) (by show X.A.units + 1 + 1 < cLine; omega) hl.isList (by rw [← rv.length]; exact hz) (fun v hv => ?_) fun h' d out h1 h2 kp hd hn => ?_
  · obtain ⟨t, rfl⟩ := e2 v hv
    have hm : V.ref t ∈ xs := by rw [e1]; exact List.mem_map.mpr ⟨_, hv, rfl⟩
    obtain ⟨t', b, e, ht, hb⟩ := hx _ hm
    cases e
    obtain ⟨_, its2, r2, o, ho, hc, n, hd⟩ := I.hok _ _ ht
    obtain ⟨u1, u2, rfl, ri, rj⟩ := vals2 r2
    obtain ⟨t1, rfl⟩ := ri
    obtain rfl : u2 = Value.ref b := rj
    refine ⟨t, o, t1, b, n, rfl, ho, hc, hd, ?_⟩
    cases tup with
    | true =>
      obtain ⟨its3, r3, p3, _⟩ := I.tuple hb
      exact ⟨_, p3, r3.ints⟩
    | false =>
      obtain ⟨its3, r3, p3, _⟩ := I.list hb
      exact ⟨_, p3.isList, r3.ints⟩
  · have h3 : ∀ u ∈ out, ∃ a, u = Value.ref a := fun u hu => e2 u (h2.perm.mem_iff.mp hu)
    obtain ⟨n, hn⟩ := hn
    have pm : (out.map backV).Perm xs := by
      rw [e1]
      exact h2.perm.map backV
    refine ⟨.ref d, upd H d (.lst (out.map backV)), I.laid (t' := s.toks) kp hd ⟨?_, out, n, L2.vals_back h3, hn⟩, rfl, q _ d (SrtO.srtd_map (lt := fun x y => ltLen (k x) (k y)) (f := backV) h1) pm (I.hok.fresh hd)⟩
    rw [pm.length_eq]
    exact hz
end Lk
set_option Elab.async false
set_option linter.all false
set_option maxRecDepth 100000
set_option maxHeartbeats 4000000
set_option pp.maxSteps 1200
set_option pp.deepTerms false
namespace K6
open PySem PySem.Spec PyProof.Rows L2 Lk
section
variable {P : Program} {w : World} {K : PySem.W.Frag} {mg : Str → Option Value} {base : Heap} {f : Addr} {fd : FuncData}
abbrev sLots : Stmt := top 18
/-- the places that are in a code -/
def rowC (n c : Nat) : List Nat := (List.range n).filter fun p => decide (c / 2 ^ p % 2 = 1)
def rowI (n c : Nat) : List Int := (rowC n c).map fun p : Nat => (p : Int)
theorem rowC_len (n c : Nat) : (rowC n c).length ≤ n := by
  have := List.length_filter_le (fun p => decide (c / 2 ^ p % 2 = 1)) (List.range n)
  rw [List.length_range] at this
  exact this
theorem rowC_lt {n c p : Nat} (h : p ∈ rowC n c) : p < n := List.mem_range.mp (List.mem_filter.mp h).1
theorem rowC_sub (n c : Nat) : (rowC n c).Sublist (List.range n) := List.filter_sublist
theorem rowC_congr {n c d : Nat} (h : ∀ p, p < n → c / 2 ^ p % 2 = d / 2 ^ p % 2) : rowC n c = rowC n d := by
  refine List.filter_congr fun p hp => ?_
  rw [h p (List.mem_range.mp hp)]
/-- each choice of places has a code -/
theorem rowC_has : ∀ (n : Nat) (q : Nat → Bool), ∃ c, c < 2 ^ n ∧ ∀ p, p < n → (c / 2 ^ p % 2 = 1 ↔ q p = true)
  | 0, _ => ⟨0, by decide, fun p h => absurd h (Nat.not_lt_zero p)⟩
  | n + 1, q => by
    obtain ⟨c, hc, h⟩ := rowC_has n q
    cases hq : q n with
    | false =>
      refine ⟨c, Nat.lt_of_lt_of_le hc (Nat.pow_le_pow_right (by decide) (Nat.le_succ n)), fun p hp => ?_⟩
      rcases Nat.lt_or_ge p n with h1 | h1
      · exact h p h1
      · have : p = n := by omega
        subst this
        rw [Nat.div_eq_of_lt hc, hq]
        decide
    | true =>
      refine ⟨c + 2 ^ n, by rw [Nat.pow_succ]; omega, fun p hp => ?_⟩
      rcases Nat.lt_or_ge p n with h1 | h1
      · have e : 2 ^ n = 2 ^ p * (2 * 2 ^ (n - p - 1)) := by
          rw [← Nat.pow_succ', ← Nat.pow_add]
          congr 1
          omega
        rw [e, Nat.add_mul_div_left _ _ (Nat.pow_pos (by decide)), Nat.add_mul_mod_self_left]
        exact h p h1
      · have : p = n := by omega
        subst this
        rw [Nat.add_div_right _ (Nat.pow_pos (by decide)), Nat.div_eq_of_lt hc, hq]
        decide
/-- the names at these places -/
def namesAt (zs : List Str) (q : List Nat) : List Str := q.map fun p => zs.getD p Str.empty
theorem namesAt_sub (zs : List Str) (n c : Nat) (h : n = zs.length) : (namesAt zs (rowC n c)).Sublist zs := by
  subst h
  have e : (List.range zs.length).map (fun p => zs.getD p Str.empty) = zs := by
    refine List.ext_getElem (by simp) fun i h1 h2 => ?_
    simp [List.getElem?_eq_getElem h2]
  have := (rowC_sub zs.length c).map fun p => zs.getD p Str.empty
  rw [e] at this
  exact this
theorem namesAt_has {zs ys : List Str} (nd : zs.Nodup) (h : ys.Sublist zs) : ∃ c, c < 2 ^ zs.length ∧ namesAt zs (rowC zs.length c) = ys := by
  obtain ⟨c, hc, hp⟩ := rowC_has zs.length fun p => decide (zs.getD p Str.empty ∈ ys)
  refine ⟨c, hc, ?_⟩
  have e : (List.range zs.length).map (fun p => zs.getD p Str.empty) = zs := by
    refine List.ext_getElem (by simp) fun i h1 h2 => ?_
    simp [List.getElem?_eq_getElem h2]
  have f : namesAt zs (rowC zs.length c) = zs.filter fun z => decide (z ∈ ys) := by
    unfold namesAt rowC
    have g : ((List.range zs.length).filter fun p => decide (c / 2 ^ p % 2 = 1)) = (List.range zs.length).filter ((fun z => decide (z ∈ ys)) ∘ fun p => zs.getD p Str.empty) := by
      refine List.filter_congr fun p hp' => ?_
      have := hp p (List.mem_range.mp hp')
      rw [Bool.eq_iff_iff, decide_eq_true_iff, this]
      rfl
    rw [g, ← List.filter_map, e]
  have k := sub_key (fun z : Str => z) h (by rw [List.map_id']; exact nd)
  rw [f]
  rw [List.map_id'] at k
  exact k
theorem walk_rangeV {lo : Int} {n : Nat} : Walk (Itr lo n) ((List.range n).map fun i => V.int (lo + (i : Nat))).length (fun _ => True) (YAt ((List.range n).map fun i => V.int (lo + (i : Nat)))) := by
  have e : ((List.range n).map fun i => V.int (lo + (i : Nat))).length = n := by rw [List.length_map, List.length_range]
  rw [e]
  refine Walk.mono (walk_range (lo := lo) (n := n)) (fun _ h => h) ?_
  rintro i H x H' hi _ ⟨h1, h2⟩
  refine ⟨h1, ?_⟩
  rw [List.getElem?_map, List.getElem?_range hi, h2]
  rfl
def rShrN : R2 := fun x y H Q => ∃ (i : Int) (k : Nat), x = .int i ∧ y = .int (k : Int) ∧ Q (.int (i / 2 ^ k)) H
def rOdd1 : R2 := fun x y H Q => ∃ n : Nat, x = .int (n : Int) ∧ y = .int 1 ∧ Q (.int ((n % 2 : Nat) : Int)) H
def tBitT (K : PySem.W.Frag) (i j : Nat) : TT := fun σ H Q => tOp rOdd1 (tOp rShrN (tVar i) (tVar j)) (tC (.int 1)) σ H fun x H' => ∃ k, TruV K x H' k ∧ Q k H'
def asgScope (st : Stmt) (i : Nat) : Scope := match (defBody st).getD i (.Pass ⟨0, 0, 0, 0⟩) with
  | .Assign _ (.ListComp _ _ sc _) _ => sc
  | _ => defScope st
def retScope (st : Stmt) (i : Nat) : Scope := match (defBody st).getD i (.Pass ⟨0, 0, 0, 0⟩) with
  | .Return (some (.Call _ [.ListComp _ _ sc _] _ _)) _ => sc
  | _ => defScope st
theorem fm_row (n c : Nat) : ∀ ps : List Nat, (ps.filterMap fun p => if c / 2 ^ p % 2 = 1 then some (V.int ((0 : Int) + (p : Nat))) else none) = ((ps.filter fun p => decide (c / 2 ^ p % 2 = 1)).map fun p : Nat => (p : Int)).map V.int
  | [] => rfl
  | p :: ps => by
    have ih := fm_row n c ps
    by_cases h : c / 2 ^ p % 2 = 1
    · rw [List.filterMap_cons, if_pos h, List.filter_cons_of_pos (by simpa using h), List.map_cons, List.map_cons, ih, Int.zero_add]
    · rw [List.filterMap_cons, if_neg h, List.filter_cons_of_neg (by simpa using h), ih]
theorem fm_at (zs : List Str) : ∀ q : List Nat, ((q.map fun p : Nat => (p : Int)).filterMap fun p => some (V.str (zs.getD p.toNat Str.empty))) = (namesAt zs q).map V.str
  | [] => rfl
  | p :: q => by
    have ih := fm_at zs q
    rw [List.map_cons, List.filterMap_cons]
    show V.str _ :: _ = V.str _ :: _
    rw [ih, Int.toNat_natCast]
    rfl
def spCircLen (C : Addr) : Sp := fun vs H Q _ => ∃ (c : Addr) (zs : List Str), vs = [.ref c] ∧ CircAt H C c zs ∧ Q (.int zs.length) H
theorem scCircLen : FnScope ["self"] ["self"] (defScope sCircLen) := ⟨rfl, rfl, rfl, by decide +kernel, rfl, by decide +kernel, by decide +kernel⟩
theorem ok_circLen {C fC : Addr} (F : Fun K "__len__" "Circle.__len__" sCircLen f fd) (T : Bl mg) (CC : CircC K C fC) : FnOk P w K mg base CX0 1 f fd ["self"] (spCircLen C) := by
  refine F.ok scCircLen (fun vs H Q E h => ?_) (fun cdv A outer s H vs Q E hr h => ?_)
  · obtain ⟨c, zs, rfl, _⟩ := h
    rfl
  · obtain ⟨c, zs, rfl, ⟨cdx, nm, ec, en⟩, k⟩ := h
    refine ⟨_, pss_one (ps_ret (pe_callB call_len_seq (by rfl) T.len PySem.boot_len (pa_cons (pe_fld (pv 0) rfl) pa_nil))), ?_⟩
    refine ⟨_, rfl, c, C, cdx, _, .ref nm, rfl, ec, CC.cls, CC.nm, rfl, nm, _, rfl, .inr en.sq, ?_⟩
    rw [List.length_map]
    exact k
def RelL (D : Addr) (H : Hp) (v : V) (ns : List Int) : Prop := ∃ t, v = V.ref t ∧ H t = some (.lst (ns.map V.int)) ∧ t ≠ D
def RelPr (H : Hp) (v : V) (ns : List Int) : Prop := ∃ t b, v = V.ref t ∧ H t = some (.tup [.int (ns.length : Int), .ref b]) ∧ H b = some (.lst (ns.map V.int))
def RelT (H : Hp) (v : V) (ys : List Str) : Prop := ∃ t, v = V.ref t ∧ H t = some (.tup (ys.map V.str))
theorem RelPr.inj {H : Hp} {v : V} {ns ms : List Int} (h : RelPr H v ns) (g : RelPr H v ms) : ns = ms := by
  obtain ⟨t, b, e1, e2, e3⟩ := h
  obtain ⟨t', b', f1, f2, f3⟩ := g
  rw [e1] at f1
  cases f1
  rw [e2] at f2
  injection f2 with f2
  injection f2 with f2
  injection f2 with f4 f5
  injection f5 with f5 _
  injection f5 with f5
  subst f5
  rw [e3] at f3
  injection f3 with f3
  injection f3 with f3
  exact (List.map_inj_right (fun a b h => V.int.inj h)).mp f3
/-- all choices of the names, by their number, then their places -/
def LotsOk (zs : List Str) (rws : List (List Str)) : Prop := ∃ ord : List (List Nat), rws = ord.map (namesAt zs) ∧ ord.Perm ((List.range (2 ^ zs.length)).map (rowC zs.length)) ∧ SrtO.Srtd (fun x y : List Nat => ltLen (x.map fun p : Nat => (p : Int)) (y.map fun p : Nat => (p : Int))) ord
def spLots (C : Addr) : Sp := fun vs H Q _ => ∃ (c : Addr) (zs : List Str), vs = [.ref c] ∧ CircAt H C c zs ∧ zs.length ≤ 6 ∧
  ∀ (r : Addr) (ts : List V) (rws : List (List Str)) (H' : Hp), Same H H' → H' r = some (.tup ts) → Paired (RelT H') ts rws → LotsOk zs rws → Q (.ref r) H'
theorem scLots : FnScope ["circle", "codes", "rows", "code", "place", "ordered", "row", "_", "places"] ["circle"] (defScope sLots) := ⟨rfl, rfl, rfl, by decide +kernel, rfl, by decide +kernel, by decide +kernel⟩
def tLenC (C : Addr) (i : Nat) : TE := tCB (rLenI C (spCircLen C)) (tCons (tVar i) tNil)
def tPlaces (K : PySem.W.Frag) : TE := fun σ H Q => tLc (iList K (tVar 8)) (gName 4) tYes (tOp (rIxT K) (tFld K (tVar 0) "names") (tVar 4)) [4] σ H fun x H1 => kTup K x H1 Q
theorem ok_lots {C fC fL : Addr} {fdL : FuncData} (F : Fun K "lots" "lots" sLots f fd) (T : Bl mg) (Cc : Cn mg) (CC : CircC K C fC) (ML : MethC K C "__len__" fL) (FL : Fun K "__len__" "Circle.__len__" sCircLen fL fdL) (bL : Binds K fdL ["self"] []) :
    FnOk P w K mg base CX0 3 f fd ["circle"] (spLots C) := by
  have GL : FnOk P w K mg base CX0 1 fL fdL ["self"] (spCircLen C) := ok_circLen FL T CC
  refine F.ok scLots (fun vs H Q E h => ?_) (fun cdv A outer s H vs Q E hr h => ?_)
  · obtain ⟨c, zs, rfl, _⟩ := h
    rfl
  · obtain ⟨c, zs, rfl, hc, z6, k⟩ := h
    have nd := scLots.nd
    have hu := hu_of hr
    have hu8 : _ + 8 < cLine := Nat.lt_of_le_of_lt (Nat.add_le_add_left (by decide) _) (room64 hr)
    refine ⟨_, pss_cons (ps_set (i := 1) nd rfl (.inl rfl) (pe_callTy cr_range1 rfl T.range boot_range (pa_cons (pe_op op_oneShl pe_int (pe_callB (call_lenI GL ML.at_ ML.fn bL hr) (by rfl) T.len PySem.boot_len (pa_cons (pv 0) pa_nil))) pa_nil)))
      (pss_cons (ps_setLc (i := 2) (own := [("code", 3)]) (g := gName 3) (tt := tYes) (te := tLc (iRng1 (tCons (tLenC C 0) tNil)) (gName 4) (tBitT K 3 4) (tVar 4) [4]) rfl nd rfl rfl (sw_true rfl rfl rfl (by decide +kernel)) (pi_rng (pv 1))
          (blkOk_by (N := ["circle", "codes", "rows", "code", "place", "ordered", "row", "_", "places"]) (sc := defScope sLots) (by decide +kernel)) (fun _ _ _ _ _ => pg_name (i := 3) nd rfl (.inr rfl)) (fun _ _ _ _ _ => pts_nil)
          (fun _ _ _ _ _ => pe_lc (own := [("place", 4)]) (g := gName 4) (tt := tBitT K 3 4) (te := tVar 4) rfl nd (pi_range1 (by rfl) T.range (pa_cons (pe_callB (call_lenI GL ML.at_ ML.fn bL hr) (by rfl) T.len PySem.boot_len (pa_cons (pv 0) pa_nil)) pa_nil))
            (blkOk_by (N := ["circle", "codes", "rows", "code", "place", "ordered", "row", "_", "places"]) (sc := relS (asgScope sLots 1) (defScope sLots)) (by decide +kernel)) (fun _ _ _ _ _ => pg_name (i := 4) nd rfl (.inl rfl))
            (fun _ _ _ _ _ => pts_one (pt_truth (pe_op op_odd (pe_op op_shrN (pv 3) (pv 4)) pe_int) (by intro _; rfl))) (fun _ _ _ _ _ => pv 4)))
      (pss_cons (ps_set (i := 5) nd rfl (.inl rfl) (pe_callB (cr_sortedLen (tup := false) hu8) (by rfl) Cc.sorted boot_sorted (pa_cons (pe_lc (own := [("row", 6)]) (g := gName 6) (tt := tYes) (te := tTup (tCons (tCB (rLenS K) (tCons (tVar 6) tNil)) (tCons (tVar 6) tNil))) rfl nd (pi_list (pv 2))
          (blkOk_by (N := ["circle", "codes", "rows", "code", "place", "ordered", "row", "_", "places"]) (sc := defScope sLots) (by decide +kernel)) (fun _ _ _ _ _ => pg_name (i := 6) nd rfl (.inl rfl)) (fun _ _ _ _ _ => pts_nil)
          (fun _ _ _ _ _ => pe_tup (pa_cons (pe_callB call_len_seq (by rfl) T.len PySem.boot_len (pa_cons (pv 6) pa_nil)) (pa_cons (pv 6) pa_nil)))) pa_nil)))
      (pss_one (ps_ret (pe_tupleOf (by rfl) Cc.tuple (pe_lc (own := [("_", 7), ("places", 8)]) (g := gTup K 2 (gCons (gName 7) (gCons (gName 8) gNil))) (tt := tYes)
          (te := tPlaces K) rfl nd (pi_list (pv 5))
          (blkOk_by (N := ["circle", "codes", "rows", "code", "place", "ordered", "row", "_", "places"]) (sc := defScope sLots) (by decide +kernel)) (fun _ _ _ _ _ => pg_tup rfl (pgs_cons (pg_name (i := 7) nd rfl (.inl rfl)) (pgs_cons (pg_name (i := 8) nd rfl (.inl rfl)) pgs_nil))) (fun _ _ _ _ _ => pts_nil)
          (fun _ _ _ _ _ => pe_tupleOf (by rfl) Cc.tuple (pe_lc (own := [("place", 4)]) (g := gName 4) (tt := tYes) (te := tOp (rIxT K) (tFld K (tVar 0) "names") (tVar 4)) rfl nd (pi_list (pv 8))
            (blkOk_by (N := ["circle", "codes", "rows", "code", "place", "ordered", "row", "_", "places"]) (sc := relS (retScope sLots 3) (defScope sLots)) (by decide +kernel)) (fun _ _ _ _ _ => pg_name (i := 4) nd rfl (.inl rfl)) (fun _ _ _ _ _ => pts_nil)
            (fun _ _ _ _ _ => pe_ix ix_tup (pe_fld (pv 0) rfl) (pv 4) (fun _ _ => rfl)))))))))), ?_⟩
    obtain ⟨cdx, nm, ec, en⟩ := id hc
    have hcs : ∀ {H'}, Same H H' → CircAt H' C c zs := fun s => ⟨cdx, nm, s _ _ ec, en.same s⟩
    refine ⟨_, rfl, c, cdx, _, rfl, ec, c, zs, rfl, hc, _, rfl, by omega, by omega, zs.length, rfl, rfl, by omega, _, rfl, fun p np => ?_⟩
    have eI : ((2 : Int) ^ zs.length) = ((2 ^ zs.length : Nat) : Int) := by push_cast; rfl
    rw [eI]
    have N64 : 2 ^ zs.length ≤ 64 := Nat.le_trans (Nat.pow_le_pow_right (by decide) z6) (by decide)
    have s1 : Same H (upd H p (.rng 0 ((2 ^ zs.length : Nat) : Int))) := same_new np
    have ep : upd H p (.rng 0 ((2 ^ zs.length : Nat) : Int)) p = some (.rng 0 ((2 ^ zs.length : Nat) : Int)) := upd_same
    generalize upd H p (.rng 0 ((2 ^ zs.length : Nat) : Int)) = H1 at s1 ep
    obtain ⟨N, hN⟩ : ∃ N, N = 2 ^ zs.length := ⟨_, rfl⟩
    rw [← hN] at ep N64
    refine ⟨_, rfl, p, 0, (N : Int), rfl, ep, ⟨by decide, by decide, by omega, by omega⟩, fun D nD => ?_⟩
    have eT : ((N : Int) - 0).toNat = N := by omega
    rw [eT]
    refine lc_relD (walk_rangeV (lo := 0) (n := N)) (List.range N) (fun i => V.int ((0 : Int) + (i : Nat))) (fun b => rowI zs.length b) (RelL D) nD (fun Ha Hb v b kb r => ?_) rfl (by rw [List.length_range]; omega) (fun _ _ => trivial) ?_ ?_
    · obtain ⟨t, e1, e2, e3⟩ := r
      exact ⟨t, e1, kb _ _ e3 e2, e3⟩
    · intro i b H2 R hb s2 nD2 kR
      have sH2 := s1.trans s2
      refine ⟨rfl, _, rfl, c, cdx, _, rfl, sH2 _ _ ec, c, zs, rfl, hcs sH2, _, rfl, by omega, by omega, _, rfl, by omega, by omega, fun D2 nD2' => ?_⟩
      refine lc_fm (walk_range (lo := 0) (n := ((zs.length : Nat) : Int).toNat)) (List.range zs.length) (fun q => if b / 2 ^ q % 2 = 1 then some (V.int ((0 : Int) + (q : Nat))) else none) (by rw [List.length_range, Int.toNat_natCast]) (by omega) nD2' (fun _ _ => trivial) ?_ ?_
      · rintro j u q H4 H4' R2 Rn2 hq s4 ⟨rfl, rfl⟩ g1 g2
        have hj : j < zs.length := by
          have := (List.getElem?_eq_some_iff.mp hq).1
          rw [List.length_range] at this
          exact this
        obtain rfl : j = q := by
          rw [List.getElem?_range hj] at hq
          exact Option.some.inj hq
        refine ⟨rfl, _, rfl, _, rfl, _, j, rfl, (show V.int ((0 : Int) + (j : Nat)) = V.int (j : Int) by rw [Int.zero_add]), b / 2 ^ j, (show V.int (((0 : Int) + (b : Nat)) / 2 ^ j) = V.int ((b / 2 ^ j : Nat) : Int) by rw [Int.zero_add]; push_cast; rfl), rfl, _, rfl, ?_⟩
        by_cases h : b / 2 ^ j % 2 = 1
        · exact iteA (by rw [h]; rfl) ⟨_, rfl, g1 _ _ (if_pos h) (Same.refl _)⟩
        · have h0 : b / 2 ^ j % 2 = 0 := by omega
          exact iteB (by rw [h0]; rfl) (g2 _ (if_neg h) (Same.refl _))
      · intro H4 s4 eD2
        rw [fm_row zs.length b] at eD2
        exact kR H4 (.ref D2) s4 ⟨D2, rfl, eD2, fun z => nD2 (by rw [← z]; exact nD2')⟩
    · intro H3 ts s3 eD pr
      obtain ⟨ys, y1, y2, y3⟩ := paired_zip pr
      have yl : ys.length = N := by rw [← List.length_map (f := (·.2)), y2, List.length_map, List.length_range]
      refine ⟨_, rfl, D, rfl, ⟨_, SqL.of eD⟩, fun E nE => ?_⟩
      have relE : ∀ Ha Hb v b, KeepB E Ha Hb → (∃ t q, v = V.ref t ∧ Ha t = some (.tup [.int ((b : List Int).length : Int), .ref q]) ∧ Ha q = some (.lst (b.map V.int)) ∧ t ≠ E ∧ q ≠ E) → (∃ t q, v = V.ref t ∧ Hb t = some (.tup [.int (b.length : Int), .ref q]) ∧ Hb q = some (.lst (b.map V.int)) ∧ t ≠ E ∧ q ≠ E) := fun Ha Hb v b kb ⟨t, q, e1, e2, e3, e4, e5⟩ => ⟨t, q, e1, kb _ _ e4 e2, kb _ _ e5 e3, e4, e5⟩
      refine lc_relD (walk_list (a := D) (xs := ts)) ys (·.1) (·.2) (fun H v b => ∃ t q, v = V.ref t ∧ H t = some (.tup [.int ((b : List Int).length : Int), .ref q]) ∧ H q = some (.lst (b.map V.int)) ∧ t ≠ E ∧ q ≠ E) nE relE y1.symm (by omega) (fun H s => s.seq (SqL.of eD)) ?_ ?_
      · rintro i ⟨yv, yn⟩ H4 R hy s4 nE4 kR
        obtain ⟨t, et, eh, _⟩ := y3 _ (List.mem_of_getElem? hy)
        dsimp only at et eh
        subst et
        have eh4 := s4 _ _ eh
        refine ⟨rfl, _, rfl, t, _, rfl, .inl (SqL.of eh4), _, rfl, few_ok rfl, fun q nq => ?_⟩
        rw [List.length_map]
        refine kR _ (.ref q) (same_new nq) ⟨q, t, rfl, upd_same, same_new nq _ _ eh4, fun z => nE4 (by rw [← z]; exact nq), fun z => ?_⟩
        rw [z, nE] at eh
        cases eh
      · intro H5 ts2 s5 eE pr2
        rw [y2] at pr2
        have pP : Paired (RelPr H5) ts2 ((List.range N).map fun b => rowI zs.length b) := Paired.mapP pr2 fun v b ⟨t, q, e1, e2, e3, _⟩ => ⟨t, q, e1, e2, e3⟩
        obtain ⟨ws, w1, w2, w3⟩ := paired_zip pP
        classical
        obtain ⟨kN, hkN⟩ : ∃ kN : V → List Nat, kN = fun x => if h : ∃ q : List Nat, RelPr H5 x (q.map fun p : Nat => (p : Int)) then h.choose else [] := ⟨_, rfl⟩
        have kOk : ∀ z ∈ ws, ∃ b, b < N ∧ z.2 = rowI zs.length b ∧ kN z.1 = rowC zs.length b := fun z hz => by
          have m : z.2 ∈ (List.range N).map fun b => rowI zs.length b := by rw [← w2]; exact List.mem_map.mpr ⟨z, hz, rfl⟩
          obtain ⟨b, hb, e⟩ := List.mem_map.mp m
          refine ⟨b, List.mem_range.mp hb, e.symm, ?_⟩
          have r := w3 z hz
          rw [← e] at r
          have ex : ∃ q : List Nat, RelPr H5 z.1 (q.map fun p : Nat => (p : Int)) := ⟨_, r⟩
          rw [hkN]
          show (if h : _ then _ else _) = _
          rw [dif_pos ex]
          have := RelPr.inj ex.choose_spec r
          exact (List.map_inj_right (fun a b h => Int.ofNat.inj h)).mp this
        have kmap : ts2.map kN = (List.range N).map (rowC zs.length) := by
          have e1 : ws.map (fun z => kN z.1) = ws.map fun z => z.2.map Int.toNat := List.map_congr_left fun z hz => by
            obtain ⟨b, _, e2, e3⟩ := kOk z hz
            rw [e2, e3]
            unfold rowI
            rw [List.map_map]
            simp [Function.comp_def]
          rw [← w1, List.map_map]
          show ws.map (fun z => kN z.1) = _
          rw [e1]
          have : ws.map (fun z => z.2.map Int.toNat) = (ws.map (·.2)).map fun x => x.map Int.toNat := by rw [List.map_map]; rfl
          rw [this, w2, List.map_map]
          refine List.map_congr_left fun b _ => ?_
          show (rowI zs.length b).map Int.toNat = _
          unfold rowI
          rw [List.map_map]
          simp [Function.comp_def]
        have relK : ∀ x ∈ ts2, RelPr H5 x ((kN x).map fun p : Nat => (p : Int)) := fun x hx => by
          rw [← w1] at hx
          obtain ⟨z, hz, rfl⟩ := List.mem_map.mp hx
          obtain ⟨b, _, e2, e3⟩ := kOk z hz
          rw [e3]
          have := w3 z hz
          rw [e2] at this
          exact this
        refine ⟨E, ts2, fun x => (kN x).map fun p : Nat => (p : Int), rfl, SqL.of eE, fun x hx => ?_, fun os p srt perm np => ?_⟩
        · obtain ⟨t, b, e1, e2, e3⟩ := relK x hx
          exact ⟨t, b, e1, e2, by rw [if_neg (by decide)]; exact SqL.of e3⟩
        have s6 : Same H5 (upd H5 p (.lst os)) := same_new np
        have ep6 : upd H5 p (.lst os) p = some (.lst os) := upd_same
        generalize upd H5 p (.lst os) = H6 at s6 ep6
        have relO : ∀ x ∈ os, RelPr H6 x ((kN x).map fun p : Nat => (p : Int)) := fun x hx => by
          obtain ⟨t, b, e1, e2, e3⟩ := relK x (perm.mem_iff.mp hx)
          exact ⟨t, b, e1, s6 _ _ e2, s6 _ _ e3⟩
        have ordP : (os.map kN).Perm ((List.range N).map (rowC zs.length)) := by
          rw [← kmap]
          exact perm.map kN
        have osl : os.length = N := by
          have := ordP.length_eq
          rw [List.length_map, List.length_map, List.length_range] at this
          exact this
        have sA : Same H H6 := ((s1.trans s3).trans s5).trans s6
        refine ⟨_, rfl, p, rfl, ⟨_, SqL.of ep6⟩, fun G nG => lc_relQ (walk_list (a := p) (xs := os)) nG os id (fun y => namesAt zs (kN y)) RelT (fun Ha Hb v b kp r => ?_) (by rw [List.map_id]) (by omega) (fun H s => s.seq (SqL.of ep6)) ?_ ?_⟩
        · obtain ⟨t, e1, e2⟩ := r
          exact ⟨t, e1, kp _ _ e2 fun _ z => by cases z⟩
        · intro i y H7 R hy s7 kR
          obtain ⟨t, b, e1, e2, e3⟩ := relO y (List.mem_of_getElem? hy)
          have small : ∀ q ∈ kN y, q < zs.length := fun q hq => by
            have m := ordP.mem_iff.mp (List.mem_map.mpr ⟨y, List.mem_of_getElem? hy, rfl⟩)
            obtain ⟨b, _, e⟩ := List.mem_map.mp m
            rw [← e] at hq
            exact rowC_lt hq
          have kl : (kN y).length ≤ 6 := by
            have m := ordP.mem_iff.mp (List.mem_map.mpr ⟨y, List.mem_of_getElem? hy, rfl⟩)
            obtain ⟨b, _, e⟩ := List.mem_map.mp m
            rw [← e]
            exact Nat.le_trans (rowC_len _ _) z6
          have e3' := s7 _ _ e3
          refine ⟨t, _, e1, SqT.of (s7 _ _ e2), rfl, _, _, rfl, _, _, rfl, rfl, rfl, _, rfl, b, rfl, ⟨_, SqL.of e3'⟩, fun E2 nE2 => ?_⟩
          refine lc_fm (walk_list (a := b) (xs := ((kN y).map fun p : Nat => (p : Int)).map V.int)) ((kN y).map fun p : Nat => (p : Int)) (fun p => some (V.str (zs.getD p.toNat Str.empty))) (by simp only [List.length_map]) (by simp only [List.length_map]; omega) nE2 (fun H s => s.seq (SqL.of e3')) ?_ ?_
          · rintro j u q H8 H8' R2 Rn2 hq s8 ⟨rfl, hu⟩ g1 g2
            obtain rfl : V.int q = u := by
              rw [List.getElem?_map, hq] at hu
              exact Option.some.inj hu
            obtain ⟨m, hm, rfl⟩ := List.mem_map.mp (List.mem_of_getElem? hq)
            have ml := small m hm
            have sH8 := (sA.trans s7).trans s8
            refine ⟨rfl, _, rfl, c, C, cdx, _, .ref nm, rfl, sH8 _ _ ec, CC.cls, CC.nm, rfl, _, rfl, nm, zs.map V.str, (m : Int), _, rfl, rfl, (en.same sH8).sq, atN (i := m) (v := V.str (zs.getD m Str.empty)) ?_, g1 _ _ (by rw [Int.toNat_natCast]) (Same.refl _)⟩
            rw [List.getElem?_map, List.getD_eq_getElem?_getD, List.getElem?_eq_getElem ml]
            rfl
          · intro H8 s8 e8
            rw [fm_at] at e8
            exact .inl ⟨E2, _, rfl, SqL.of e8, fun T nT => kR _ _ (s8.trans (same_new nT)) ⟨T, rfl, upd_same⟩⟩
        · intro H9 ts9 s9 eG pr9
          refine .inl ⟨G, _, rfl, SqL.of eG, fun r nr => ?_⟩
          have s10 := same_new (o := HO.tup ts9) nr
          refine k r ts9 (os.map fun y => namesAt zs (kN y)) _ ((sA.trans s9).trans s10) upd_same (Paired.mapP pr9 fun v b ⟨t, e1, e2⟩ => ⟨t, e1, s10 _ _ e2⟩) ⟨os.map kN, by rw [List.map_map]; rfl, ?_, SrtO.srtd_map srt⟩
          rw [← hN]
          exact ordP
end
end K6
set_option Elab.async false
set_option linter.all false
set_option maxRecDepth 100000
set_option maxHeartbeats 4000000
set_option pp.maxSteps 1200
set_option pp.deepTerms false
namespace K6
open PySem PySem.Spec PyProof.Rows L2 Lk
section
variable {P : Program} {w : World} {K : PySem.W.Frag} {mg : Str → Option Value} {base : Heap} {f : Addr} {fd : FuncData}
abbrev sFromTo : Stmt := top 10
abbrev sWithin : Stmt := top 22
/-- a def that is called: where it stands -/
structure At (K : PySem.W.Frag) (mg : Str → Option Value) (x : Str) (f : Addr) (fd : FuncData) (ps : List Str) : Prop where
  kp : PySem.W.keepIn K (.ref f) = true
  b : Binds K fd ps []
  m : mg x = some (.ref f)
theorem all_in (zs : List Str) : ∀ ys : List Str, (ys.map fun y => decide (y ∈ zs)).all id = ys.all fun y => decide (y ∈ zs)
  | [] => rfl
  | y :: ys => by
    have ih := all_in zs ys
    rw [List.map_cons, List.all_cons, List.all_cons, ih]
    rfl
theorem fm_some {α : Type} (q : α → V) : ∀ xs : List α, (xs.filterMap fun x => some (q x)) = xs.map q
  | [] => rfl
  | x :: xs => by rw [List.filterMap_cons, List.map_cons, fm_some q xs]
def spFromTo : Sp := fun vs H Q _ => ∃ i lo hi : Int, vs = [.int i, .int lo, .int hi] ∧ lo ≤ i ∧ i ≤ hi ∧ Q (.bl true) H
theorem scFromTo : FnScope ["value", "low", "high"] ["value", "low", "high"] (defScope sFromTo) := ⟨rfl, rfl, rfl, by decide +kernel, rfl, by decide +kernel, by decide +kernel⟩
theorem ok_fromTo {f1 : Addr} {fd1 : FuncData} (F : Fun K "is_from_to" "is_from_to" sFromTo f fd) (T : Bl mg) (G1 : FnOk P w K mg base CX0 1 f1 fd1 ["value"] spIsInt) (a1 : At K mg "is_integer" f1 fd1 ["value"]) :
    FnOk P w K mg base CX0 2 f fd ["value", "low", "high"] spFromTo := by
  refine F.ok scFromTo (fun vs H Q E h => ?_) (fun cdv A outer s H vs Q E hr h => ?_)
  · obtain ⟨i, lo, hi, rfl, _⟩ := h
    rfl
  · obtain ⟨i, lo, hi, rfl, h1, h2, k⟩ := h
    refine ⟨_, pss_one (ps_ret (pe_and (pe_call G1 hr (by rfl) a1.m a1.kp a1.b .nil pass0 (pa_cons (pv 0) pa_nil)) (pe_one (pe_chain op_le op_le (pv 1) (pv 0) (pv 2))))), ?_⟩
    refine ⟨_, rfl, i, rfl, _, rfl, iteT ?_⟩
    refine ⟨_, rfl, _, rfl, _, _, rfl, rfl, _, rfl, iteA (decide_eq_true h1) ⟨_, rfl, _, _, rfl, rfl, ?_⟩⟩
    show Q (.bl (decide (i ≤ hi))) H
    rw [decide_eq_true h2]
    exact k
def spWithin (K : PySem.W.Frag) : Sp := fun vs H Q _ => ∃ (a b : Addr) (ys zs : List Str), vs = [.ref a, .ref b] ∧ Sq K H a (ys.map V.str) ∧ Sq K H b (zs.map V.str) ∧ ys.length ≤ 100 ∧ ∀ H', Same H H' → Q (.bl (ys.all fun y => decide (y ∈ zs))) H'
theorem scWithin : FnScope ["lot", "other", "name"] ["lot", "other"] (defScope sWithin) := ⟨rfl, rfl, rfl, by decide +kernel, rfl, by decide +kernel, by decide +kernel⟩
theorem ok_within (F : Fun K "is_within" "is_within" sWithin f fd) (T : Bl mg) : FnOk P w K mg base CX0 1 f fd ["lot", "other"] (spWithin K) := by
  refine F.ok scWithin (fun vs H Q E h => ?_) (fun cdv A outer s H vs Q E hr h => ?_)
  · obtain ⟨a, b, ys, zs, rfl, _⟩ := h
    rfl
  · obtain ⟨a, b, ys, zs, rfl, ha, hb, y100, k⟩ := h
    have nd := scWithin.nd
    refine ⟨_, pss_one (ps_ret (pe_callB (cr_all rfl) (by rfl) T.all boot_all (pa_cons (pe_lc (own := [("name", 2)]) (g := gName 2) (tt := tYes) (te := tOp (rIn K false) (tVar 2) (tVar 1)) rfl nd (pi_seq (pi_list (pv 0)) (pi_tup (pv 0))) (blkOk_by (N := ["lot", "other", "name"]) (sc := defScope sWithin) (by decide +kernel))
        (fun _ _ _ _ _ => pg_name (i := 2) nd rfl (Or.inl rfl)) (fun _ _ _ _ _ => pts_nil) (fun _ _ _ _ _ => pe_cmpR op_in_seq (pv 2) (pv 1) rfl)) pa_nil))), ?_⟩
    refine ⟨a, rfl, seq_lc (Q := fun x H1 => rAll K [x] H1 Q) ys V.str (fun p => some (V.bl (decide (p ∈ zs)))) ha (by omega) ?_ ?_⟩
    · intro j y H' R Rn hy s' k1 k2
      refine ⟨rfl, _, rfl, _, rfl, b, _, rfl, hb.same s', rfl, flat_strs _, ?_⟩
      rw [inV_str]
      exact k1 _ _ rfl (Same.refl _)
    · intro D H' nD s' e
      rw [fm_some] at e
      refine ⟨D, ys.map fun y => decide (y ∈ zs), rfl, SqL.of (by rw [e, List.map_map]; rfl), ?_⟩
      rw [all_in]
      exact k H' s'
end
end K6
set_option Elab.async false
set_option linter.all false
set_option maxRecDepth 100000
set_option maxHeartbeats 4000000
set_option pp.maxSteps 1200
set_option pp.deepTerms false
namespace K6
open PySem PySem.Spec PyProof.Rows L2 Lk
section
variable {P : Program} {w : World} {K : PySem.W.Frag} {mg : Str → Option Value} {base : Heap} {f : Addr} {fd : FuncData}
theorem lots_has {zs ys : List Str} {rws : List (List Str)} (h : LotsOk zs rws) (nd : zs.Nodup) (s : ys.Sublist zs) : ys ∈ rws := by
  obtain ⟨ord, rfl, p, _⟩ := h
  obtain ⟨c, hc, e⟩ := namesAt_has nd s
  refine List.mem_map.mpr ⟨rowC zs.length c, p.mem_iff.mpr (List.mem_map.mpr ⟨c, List.mem_range.mpr hc, rfl⟩), e⟩
theorem lots_sub {zs ys : List Str} {rws : List (List Str)} (h : LotsOk zs rws) (m : ys ∈ rws) : ys.Sublist zs := by
  obtain ⟨ord, rfl, p, _⟩ := h
  obtain ⟨q, hq, rfl⟩ := List.mem_map.mp m
  obtain ⟨c, _, rfl⟩ := List.mem_map.mp (p.mem_iff.mp hq)
  exact namesAt_sub _ _ _ rfl
end
end K6
set_option Elab.async false
set_option linter.all false
set_option maxRecDepth 100000
set_option maxHeartbeats 4000000
set_option pp.maxSteps 1200
set_option pp.deepTerms false
namespace K6
open PySem PySem.Spec PyProof.Rows L2 Lk
section
variable {P : Program} {w : World} {K : PySem.W.Frag} {mg : Str → Option Value} {base : Heap} {f : Addr} {fd : FuncData}
theorem lexLt_anti : ∀ {ns ms : List Int}, ns.length = ms.length → HT.lexLt ns ms = false → HT.lexLt ms ns = false → ns = ms
  | [], [], _, _, _ => rfl
  | [], _ :: _, h, _, _ => by cases h
  | _ :: _, [], h, _, _ => by cases h
  | x :: xs, y :: ys, h, h1, h2 => by
    simp only [HT.lexLt] at h1 h2
    by_cases e : x = y
    · subst e
      rw [if_pos rfl] at h1 h2
      rw [lexLt_anti (by simpa using h) h1 h2]
    · rw [if_neg e] at h1
      rw [if_neg (fun z => e z.symm)] at h2
      have g1 := of_decide_eq_false h1
      have g2 := of_decide_eq_false h2
      exact absurd (show x = y by omega) e
theorem ltLen_anti {ns ms : List Int} (h1 : ltLen ns ms = false) (h2 : ltLen ms ns = false) : ns = ms := by
  unfold ltLen at h1 h2
  by_cases e : ns.length = ms.length
  · rw [if_pos e] at h1
    rw [if_pos e.symm] at h2
    exact lexLt_anti e h1 h2
  · rw [if_neg e] at h1
    rw [if_neg (fun z => e z.symm)] at h2
    have g1 := of_decide_eq_false h1
    have g2 := of_decide_eq_false h2
    omega
theorem pw_uniqR {α : Type} {R : α → α → Prop} (anti : ∀ a b, R a b → R b a → a = b) : ∀ {l m : List α}, l.Pairwise R → m.Pairwise R → l.Perm m → l = m
  | [], m, _, _, p => (List.Perm.eq_nil p.symm).symm
  | x :: l, [], _, _, p => absurd p.length_eq (by simp)
  | x :: l, y :: m, hl, hm, p => by
    have e : x = y := by
      rcases List.mem_cons.mp (p.mem_iff.mp (List.mem_cons_self (a := x) (l := l))) with e | hx
      · exact e
      rcases List.mem_cons.mp (p.mem_iff.mpr (List.mem_cons_self (a := y) (l := m))) with e | hy
      · exact e.symm
      exact anti _ _ ((List.pairwise_cons.mp hl).1 y hy) ((List.pairwise_cons.mp hm).1 x hx)
    subst e
    rw [pw_uniqR anti (List.pairwise_cons.mp hl).2 (List.pairwise_cons.mp hm).2 p.cons_inv]
theorem lots_uniq {zs : List Str} {r1 r2 : List (List Str)} (h1 : LotsOk zs r1) (h2 : LotsOk zs r2) : r1 = r2 := by
  obtain ⟨o1, rfl, p1, s1⟩ := h1
  obtain ⟨o2, rfl, p2, s2⟩ := h2
  have : o1 = o2 := pw_uniqR (R := fun x y : List Nat => ltLen (y.map fun p : Nat => (p : Int)) (x.map fun p : Nat => (p : Int)) = false) (fun a b h g => by
    have := ltLen_anti g h
    exact (List.map_inj_right (fun _ _ e => Int.ofNat.inj e)).mp this) s1 s2 (p1.trans p2.symm)
  rw [this]
def stepF (p : List Str → Bool) (kept : List (List Str)) (lot : List Str) : List (List Str) := if (p lot && !(kept.any fun r => r.all fun y => decide (y ∈ lot))) = true then kept ++ [lot] else kept
def leastF (p : List Str → Bool) (rws : List (List Str)) : List (List Str) := rws.foldl (stepF p) []
theorem stepF_grows (p : List Str → Bool) (kept : List (List Str)) (lot : List Str) (h : kept ≠ []) : stepF p kept lot ≠ [] := by
  unfold stepF
  split
  · simp
  · exact h
theorem foldF_grows (p : List Str → Bool) : ∀ (rws kept : List (List Str)), kept ≠ [] → rws.foldl (stepF p) kept ≠ []
  | [], _, h => h
  | r :: rws, kept, h => foldF_grows p rws _ (stepF_grows p kept r h)
theorem leastF_none (p : List Str → Bool) (rws : List (List Str)) : leastF p rws = [] ↔ ∀ r ∈ rws, p r = false := by
  unfold leastF
  induction rws with
  | nil => simp
  | cons r rws ih =>
    rw [List.foldl_cons]
    cases hp : p r with
    | true =>
      have e : stepF p [] r = [r] := by unfold stepF; rw [hp]; rfl
      rw [e]
      refine ⟨fun h => absurd h (foldF_grows p rws _ (by simp)), fun h => ?_⟩
      have := h r List.mem_cons_self
      rw [hp] at this
      cases this
    | false =>
      have e : stepF p [] r = [] := by unfold stepF; rw [hp]; rfl
      rw [e, ih]
      refine ⟨fun h x hx => ?_, fun h x hx => h x (List.mem_cons_of_mem _ hx)⟩
      rcases List.mem_cons.mp hx with rfl | hx
      · exact hp
      · exact h x hx
theorem fold_filter (p : List Str → Bool) : ∀ (rws kept : List (List Str)), (rws.filter p).foldl (stepF fun _ => true) kept = rws.foldl (stepF p) kept
  | [], _ => rfl
  | r :: rws, kept => by
    cases hp : p r with
    | true =>
      rw [List.filter_cons_of_pos hp, List.foldl_cons, List.foldl_cons, fold_filter p rws]
      have e : stepF (fun _ => true) kept r = stepF p kept r := by unfold stepF; rw [hp]
      rw [e]
    | false =>
      rw [List.filter_cons_of_neg (by rw [hp]; decide), List.foldl_cons, fold_filter p rws]
      have e : stepF p kept r = kept := by unfold stepF; rw [hp]; rfl
      rw [e]
theorem leastF_filter (p : List Str → Bool) (rws : List (List Str)) : leastF (fun _ => true) (rws.filter p) = leastF p rws := fold_filter p rws []
theorem stepF_len (p : List Str → Bool) (kept : List (List Str)) (lot : List Str) : (stepF p kept lot).length ≤ kept.length + 1 := by
  unfold stepF
  split
  · rw [List.length_append]; exact Nat.le_refl _
  · omega
end
end K6
set_option Elab.async false
set_option linter.all false
set_option maxRecDepth 100000
set_option maxHeartbeats 4000000
set_option pp.maxSteps 1200
set_option pp.deepTerms false
namespace K6
open PySem PySem.Spec PyProof.Rows L2 Lk
section
variable {P : Program} {w : World} {K : PySem.W.Frag} {mg : Str → Option Value} {base : Heap} {f : Addr} {fd : FuncData}
abbrev sIsTold : Stmt := top 13
abbrev sFirst : Stmt := top 36
abbrev sHasOne : Stmt := top 37
abbrev sLeast : Stmt := top 32
theorem eqvAll_strs : ∀ a b : List Str, PyData.eqvAll (strsD a) (strsD b) = decide (a = b)
  | [], [] => by simp [strsD, PyData.eqvAll]
  | [], _ :: _ => by simp [strsD, PyData.eqvAll]
  | _ :: _, [] => by simp [strsD, PyData.eqvAll]
  | x :: a, y :: b => by
    have ih := eqvAll_strs a b
    unfold strsD at ih ⊢
    rw [List.map_cons, List.map_cons, PyData.eqvAll, ih]
    by_cases h : x = y <;> by_cases g : a = b <;> simp [PyData.eqv, h, g]
theorem eqv_strsT (a b : List Str) : PyData.eqv (.tuple (strsD a)) (.tuple (strsD b)) = decide (a = b) := by
  rw [← eqvAll_strs]
  simp [PyData.eqv]
theorem in_rows (sel : List (List Str)) (r : List Str) : (sel.map fun z => PyData.tuple (strsD z)).any (fun z => PyData.eqv z (.tuple (strsD r))) = decide (r ∈ sel) := by
  rw [List.any_map, Bool.eq_iff_iff, List.any_eq_true, decide_eq_true_iff]
  constructor
  · rintro ⟨z, hz, e⟩
    have e : PyData.eqv (.tuple (strsD z)) (.tuple (strsD r)) = true := e
    rw [eqv_strsT] at e
    rw [← of_decide_eq_true e]
    exact hz
  · intro h
    refine ⟨r, h, ?_⟩
    show PyData.eqv (.tuple (strsD r)) (.tuple (strsD r)) = true
    rw [eqv_strsT]
    exact decide_eq_true rfl
theorem dp_rows {K : PySem.W.Frag} {H : Hp} : ∀ {ts : List V} {rows : List (List Str)}, Paired (RelT H) ts rows → DpAll K H ts (rows.map fun r => PyData.tuple (strsD r))
  | _, _, .nil => .nil
  | _, _, .cons ⟨t, e1, e2⟩ r => by
    subst e1
    exact .cons (.tup (SqT.of e2) (dp_strs _)) (dp_rows r)
theorem RelT.keepP {H H' : Hp} (k : Keep H H') (v : V) (r : List Str) (h : RelT H v r) : RelT H' v r := by
  obtain ⟨t, e1, e2⟩ := h
  exact ⟨t, e1, k _ _ e2 fun _ z => by cases z⟩
theorem rows_keep {H H' : Hp} {ts : List V} {rows : List (List Str)} (p : Paired (RelT H) ts rows) (k : Keep H H') : Paired (RelT H') ts rows := Paired.mapP p fun v r h => RelT.keepP k v r h
theorem nice_lot {zs r : List Str} (nk : NmOk zs) (s : r.Sublist zs) : Nice (6 * (8 + 1)) 1 (.tuple (strsD r)) := nice_strs (fun z hz => nk.ok z (s.subset hz)) (Nat.le_trans s.length_le nk.k6)
def hasB (rows : List (List Str)) (ys : List Str) : Bool := rows.any fun r => r.all fun y => decide (y ∈ ys)
def spFirst : Sp := fun vs H Q _ => ∃ (l t : Addr) (ts : List V) (rows : List (List Str)) (ys : List Str), vs = [.ref l, .ref t] ∧ H l = some (.lst ts) ∧ Paired (RelT H) ts rows ∧ rows.length ≤ 100 ∧ (∀ r ∈ rows, r.length ≤ 6) ∧ H t = some (.tup (ys.map V.str)) ∧
  ∀ v H', Same H H' → (v = .non ∧ hasB rows ys = false ∨ (∃ i : Int, v = .int i) ∧ hasB rows ys = true) → Q v H'
theorem scFirst : FnScope ["some", "lot", "number", "row"] ["some", "lot"] (defScope sFirst) := ⟨rfl, rfl, rfl, by decide +kernel, rfl, by decide +kernel, by decide +kernel⟩
theorem ok_first {f1 : Addr} {fd1 : FuncData} (F : Fun K "first_within" "first_within" sFirst f fd) (T : Bl mg)
    (G1 : FnOk P w K mg base CX0 1 f1 fd1 ["lot", "other"] (spWithin K)) (a1 : At K mg "is_within" f1 fd1 ["lot", "other"]) :
    FnOk P w K mg base CX0 2 f fd ["some", "lot"] spFirst := by
  refine F.ok scFirst (fun vs H Q E h => ?_) (fun cdv A outer s H vs Q E hr h => ?_)
  · obtain ⟨l, t, ts, rows, ys, rfl, _⟩ := h
    rfl
  · obtain ⟨l, t, ts, rows, ys, rfl, el, pr, rl, r6, et, k⟩ := h
    have nd := scFirst.nd
    refine ⟨_, pss_cons (ps_for PassesOwn.never rfl (pi_enum (by rfl) T.enum (pa_cons (pv 0) pa_nil)) (pg_tup rfl (pgs_cons (pg_name (i := 2) nd rfl (.inl rfl)) (pgs_cons (pg_name (i := 3) nd rfl (.inl rfl)) pgs_nil)))
          (pss_one (ps_if (pt_val (pe_call G1 hr (by rfl) a1.m a1.kp a1.b .nil pass0 (pa_cons (pv 3) (pa_cons (pv 1) pa_nil)))) (pss_one (ps_ret (pv 2))) pss_nil)))
        (pss_one (ps_ret pe_non)), ?_⟩
    have tl : ts.length = rows.length := paired_len pr
    refine ⟨_, rfl, l, _, rfl, SqL.of el, for_it (walk_enum (xs := ts)) (fun i σ H' => ∃ u v, σ = [some (.ref l), some (.ref t), u, v] ∧ Same H H' ∧ hasB (rows.take i) ys = false) ⟨none, none, rfl, Same.refl _, rfl⟩ (fun i σ H' _ ⟨_, _, _, s', _⟩ => SqL.of (s' _ _ el)) ?_ ?_⟩
    · rintro i x σ H2 H3 hi ⟨u, v, rfl, s2, hf⟩ ⟨t2, a1', a2, rfl, nt, rfl, e1, e2⟩
      obtain rfl := Option.some.inj e1
      obtain ⟨row, hrow⟩ : ∃ row, rows[i]? = some row := ⟨_, List.getElem?_eq_getElem (by rw [← tl]; exact (List.getElem?_eq_some_iff.mp e2).1)⟩
      obtain ⟨v2, hv2, p, rfl, ep⟩ := paired_get pr hrow
      obtain rfl : V.ref p = a2 := Option.some.inj (hv2.symm.trans e2)
      have s3 : Same H (upd H2 t2 (.tup [.int (i : Nat), .ref p])) := s2.trans (same_new nt)
      refine ⟨t2, _, rfl, SqT.of upd_same, rfl, _, _, rfl, _, _, rfl, rfl, ?_⟩
      have r6' := r6 row (List.mem_of_getElem? hrow)
      refine ⟨_, rfl, _, rfl, p, t, row, ys, rfl, .inr (SqT.of (s3 _ _ ep)), .inr (SqT.of (s3 _ _ et)), by omega, fun H4 s4 => ⟨_, rfl, ?_⟩⟩
      have tk : hasB (rows.take (i + 1)) ys = (row.all fun y => decide (y ∈ ys)) := by
        unfold hasB at hf ⊢
        rw [List.take_add_one, hrow, Option.toList_some, List.any_append, hf]
        simp
      cases hb : (row.all fun y => decide (y ∈ ys)) with
      | true =>
        refine iteT ⟨_, rfl, k _ _ (s3.trans s4) (.inr ⟨⟨_, rfl⟩, ?_⟩)⟩
        exact List.any_eq_true.mpr ⟨row, List.mem_of_getElem? hrow, hb⟩
      | false => exact iteB rfl ⟨_, _, rfl, s3.trans s4, by rw [tk, hb]⟩
    · rintro σ H2 ⟨u, v, rfl, s2, hf⟩
      rw [tl, List.take_length] at hf
      exact k _ _ s2 (.inl ⟨rfl, hf⟩)
def spHasOne : Sp := fun vs H Q _ => ∃ (l t : Addr) (ts : List V) (rows : List (List Str)) (ys : List Str), vs = [.ref l, .ref t] ∧ H l = some (.lst ts) ∧ Paired (RelT H) ts rows ∧ rows.length ≤ 100 ∧ (∀ r ∈ rows, r.length ≤ 6) ∧ H t = some (.tup (ys.map V.str)) ∧
  ∀ H', Same H H' → Q (.bl (hasB rows ys)) H'
theorem scHasOne : FnScope ["some", "lot"] ["some", "lot"] (defScope sHasOne) := ⟨rfl, rfl, rfl, by decide +kernel, rfl, by decide +kernel, by decide +kernel⟩
theorem ok_hasOne {f1 : Addr} {fd1 : FuncData} (F : Fun K "has_one" "has_one" sHasOne f fd)
    (G1 : FnOk P w K mg base CX0 2 f1 fd1 ["some", "lot"] spFirst) (a1 : At K mg "first_within" f1 fd1 ["some", "lot"]) :
    FnOk P w K mg base CX0 3 f fd ["some", "lot"] spHasOne := by
  refine F.ok scHasOne (fun vs H Q E h => ?_) (fun cdv A outer s H vs Q E hr h => ?_)
  · obtain ⟨l, t, ts, rows, ys, rfl, _⟩ := h
    rfl
  · obtain ⟨l, t, ts, rows, ys, rfl, el, pr, rl, r6, et, k⟩ := h
    refine ⟨_, pss_one (ps_ret (pe_cmp (pc_notN (pe_call G1 hr (by rfl) a1.m a1.kp a1.b .nil pass0 (pa_cons (pv 0) (pa_cons (pv 1) pa_nil)))))), ?_⟩
    refine ⟨_, rfl, _, rfl, l, t, ts, rows, ys, rfl, el, pr, rl, r6, et, fun v H' s h => ?_⟩
    rcases h with ⟨rfl, hb⟩ | ⟨⟨i, rfl⟩, hb⟩
    · have := k H' s
      rw [hb] at this
      exact this
    · have := k H' s
      rw [hb] at this
      exact this
def spLeast (C : Addr) : Sp := fun vs H Q _ => ∃ (c l : Addr) (zs : List Str) (ts : List V) (sel : List (List Str)), vs = [.ref c, .ref l] ∧ CircAt H C c zs ∧ NmOk zs ∧ zs.length ≤ 6 ∧ H l = some (.lst ts) ∧ Paired (RelT H) ts sel ∧ (∀ r ∈ sel, r.Sublist zs) ∧ sel.length ≤ 64 ∧
  ∀ q us rws H', Same H H' → H' q = some (.tup us) → Paired (RelT H') us (leastF (fun r => decide (r ∈ sel)) rws) → LotsOk zs rws → Q (.ref q) H'
theorem scLeast : FnScope ["circle", "some", "kept", "lot"] ["circle", "some"] (defScope sLeast) := ⟨rfl, rfl, rfl, by decide +kernel, rfl, by decide +kernel, by decide +kernel⟩
theorem lots_64 {zs : List Str} {rws : List (List Str)} (h : LotsOk zs rws) (l6 : zs.length ≤ 6) : rws.length ≤ 64 := by
  obtain ⟨o, rfl, p, _⟩ := h
  rw [List.length_map, p.length_eq, List.length_map, List.length_range]
  exact Nat.pow_le_pow_right (by decide) l6
theorem ok_least {C f1 f2 : Addr} {fd1 fd2 : FuncData} (F : Fun K "least_of" "least_of" sLeast f fd) (T : Bl mg) (Cc : Cn mg)
    (G1 : FnOk P w K mg base CX0 3 f1 fd1 ["circle"] (spLots C)) (a1 : At K mg "lots" f1 fd1 ["circle"])
    (G2 : FnOk P w K mg base CX0 3 f2 fd2 ["some", "lot"] spHasOne) (a2 : At K mg "has_one" f2 fd2 ["some", "lot"]) :
    FnOk P w K mg base CX0 4 f fd ["circle", "some"] (spLeast C) := by
  refine F.ok scLeast (fun vs H Q E h => ?_) (fun cdv A outer s H vs Q E hr h => ?_)
  · obtain ⟨c, l, zs, ts, sel, rfl, _⟩ := h
    rfl
  · obtain ⟨c, l, zs, ts, sel, rfl, ca, nk, z6, el, pr, hsub, s64, k⟩ := h
    have nd := scLeast.nd
    refine ⟨_, pss_cons (ps_set (i := 2) nd rfl (.inl rfl) (pe_lst pa_nil))
      (pss_cons (ps_for PassesOwn.never rfl (pi_tup (pe_call G1 hr (by rfl) a1.m a1.kp a1.b .nil pass0 (pa_cons (pv 0) pa_nil))) (pg_name (i := 3) nd rfl (.inl rfl))
          (pss_one (ps_if (PW.pt (pw_and (pt_cmpR (op_inD (room65 hr)) (pv 3) (pv 1) rfl) (pw_and1 (pt_not (pt_val (pe_call G2 hr (by rfl) a2.m a2.kp a2.b .nil pass0 (pa_cons (pv 2) (pa_cons (pv 3) pa_nil))))))))
            (pss_one (ps_expr (pe_bm PySem.F.plainAttrs_list PySem.F.slot_list_append PySem.F.type_list_append mt_append (pv 2) (pa_cons (pv 3) pa_nil)))) pss_nil)))
      (pss_one (ps_ret (pe_tupleOf (by rfl) Cc.tuple (pv 2))))), ?_⟩
    refine ⟨few_ok rfl, fun D nD => ?_⟩
    have s1 : Same H (upd H D (.lst [])) := same_new nD
    have eD0 := upd_same (H := H) (a := D) (o := HO.lst [])
    generalize upd H D (.lst []) = H1 at s1 eD0 ⊢
    have ca1 : CircAt H1 C c zs := by
      obtain ⟨dx, nm, e1, e2⟩ := ca
      exact ⟨dx, nm, s1 _ _ e1, e2.same s1⟩
    refine ⟨_, rfl, c, zs, rfl, ca1, z6, fun r us rws H2 s2 er pu lo => ?_⟩
    have eD2 := s2 _ _ eD0
    have s12 := s1.trans s2
    have rDD : r ≠ D := fun z => by rw [z, eD2] at er; cases er
    have rsub : ∀ x ∈ rws, x.Sublist zs := fun x hx => lots_sub lo hx
    have rl := lots_64 lo z6
    have ul : us.length = rws.length := paired_len pu
    have far : ∀ {H3 : Hp}, KeepB D H2 H3 → Same H H3 := fun kb b o q => kb _ _ (ne_of_none q nD) (s12 _ _ q)
    refine ⟨r, rfl, ⟨_, SqT.of er⟩, for_tup (xs := us) (fun i σ H3 => ∃ (u : Option V) (ks : List V), σ = [some (.ref c), some (.ref l), some (.ref D), u] ∧ H3 D = some (.lst ks) ∧ Paired (RelT H3) ks ((rws.take i).foldl (stepF fun x => decide (x ∈ sel)) []) ∧
      (∀ x ∈ (rws.take i).foldl (stepF fun x => decide (x ∈ sel)) [], x.Sublist zs) ∧ ((rws.take i).foldl (stepF fun x => decide (x ∈ sel)) []).length ≤ i ∧ KeepB D H2 H3) ?_ ?_ ?_ ?_⟩
    · exact ⟨none, [], rfl, eD2, .nil, (fun _ h => by cases h), Nat.le_refl _, fun _ _ _ q => q⟩
    · rintro i σ H3 _ ⟨_, _, _, _, _, _, _, kb⟩
      exact SqT.of (kb _ _ rDD er)
    · rintro i y σ H3 hy ⟨u, ks, rfl, eD, pk, ksub, kl, kb⟩
      obtain ⟨row, hrow⟩ : ∃ row, rws[i]? = some row := ⟨_, List.getElem?_eq_getElem (by rw [← ul]; exact (List.getElem?_eq_some_iff.mp hy).1)⟩
      obtain ⟨v2, hv2, p, rfl, ep⟩ := paired_get pu hrow
      obtain rfl : V.ref p = y := Option.some.inj (hv2.symm.trans hy)
      have i64 : i < 64 := by have := (List.getElem?_eq_some_iff.mp hrow).1; omega
      have pD : p ≠ D := fun z => by rw [z, eD2] at ep; cases ep
      have ep3 := kb _ _ pD ep
      have rs := rsub row (List.mem_of_getElem? hrow)
      obtain ⟨kept, hkept⟩ : ∃ kept, kept = (rws.take i).foldl (stepF fun x => decide (x ∈ sel)) [] := ⟨_, rfl⟩
      have tk : (rws.take (i + 1)).foldl (stepF fun x => decide (x ∈ sel)) [] = stepF (fun x => decide (x ∈ sel)) kept row := by
        rw [List.take_add_one, hrow, Option.toList_some, List.foldl_append, hkept]
        rfl
      rw [← hkept] at pk ksub kl
      have sH3 := far kb
      have pr3 := rows_keep pr (.of sH3)
      have nr := nice_lot nk rs
      refine ⟨_, rfl, _, rfl, .tuple (strsD row), sel.map fun z => .tuple (strsD z), .tup (SqT.of ep3) (dp_strs _), .lst (SqL.of (sH3 _ _ el)) (dp_rows pr3), nr.shaped (by decide), ?_, _, rfl, ?_⟩
      · exact (Nice.lst (c := 6 * (8 + 1)) (k := 1) (m := 64) (fun d hd => by
          obtain ⟨z, hz, rfl⟩ := List.mem_map.mp hd
          exact nice_lot nk (hsub z hz)) (by rw [List.length_map]; exact s64)).shaped (by decide)
      rw [in_rows]
      by_cases hin : row ∈ sel
      · rw [decide_eq_true hin]
        refine iteT ?_
        have k6' : ∀ x ∈ kept, x.length ≤ 6 := fun x hx => Nat.le_trans (ksub x hx).length_le z6
        refine ⟨_, rfl, _, rfl, D, p, ks, kept, row, rfl, eD, pk, by omega, k6', ep3, fun H4 s4 => ⟨_, rfl, ?_⟩⟩
        have eD4 := s4 _ _ eD
        have kb4 : KeepB D H2 H4 := fun b o nb q => s4 _ _ (kb b o nb q)
        have pk4 := rows_keep pk (.of s4)
        have st : stepF (fun x => decide (x ∈ sel)) kept row = if (!hasB kept row) = true then kept ++ [row] else kept := by
          unfold stepF hasB
          rw [show (fun x => decide (x ∈ sel)) row = true from decide_eq_true hin, Bool.true_and]
        cases hb : hasB kept row with
        | true =>
          refine iteB rfl ⟨_, ks, rfl, eD4, ?_, ?_, ?_, kb4⟩
          · rw [tk, st, hb]; exact pk4
          · rw [tk, st, hb]; exact ksub
          · rw [tk, st, hb]
            show kept.length ≤ _
            omega
        | false =>
          refine iteT ?_
          have ksl : ks.length = kept.length := paired_len pk
          refine ⟨_, rfl, .inl ⟨rfl, _, SqL.of eD4⟩, _, rfl, D, _, _, rfl, rfl, eD4, by rw [sizeLine_eq]; omega, ?_⟩
          have kp : Keep H4 (upd H4 D (.lst (ks ++ [.ref p]))) := .upd eD4
          refine ⟨_, ks ++ [.ref p], rfl, upd_same, ?_, ?_, ?_, fun b o nb q => by rw [upd_ne nb]; exact kb4 b o nb q⟩
          · rw [tk, st, hb]
            exact Paired.add (rows_keep pk4 kp) ⟨p, rfl, kp _ _ (s4 _ _ ep3) fun _ z => by cases z⟩
          · rw [tk, st, hb]
            intro x hx
            rcases List.mem_append.mp hx with hx | hx
            · exact ksub x hx
            · rw [List.mem_singleton.mp hx]; exact rs
          · rw [tk, st, hb]
            show (kept ++ [row]).length ≤ _
            rw [List.length_append]
            show kept.length + 1 ≤ _
            omega
      · rw [decide_eq_false hin]
        have st : stepF (fun x => decide (x ∈ sel)) kept row = kept := by unfold stepF; rw [show (fun x => decide (x ∈ sel)) row = false from decide_eq_false hin]; rfl
        refine iteB rfl (iteB rfl ⟨_, ks, rfl, eD, ?_, ?_, ?_, kb⟩)
        · rw [tk, st]; exact pk
        · rw [tk, st]; exact ksub
        · rw [tk, st]; omega
    · rintro σ H3 ⟨u, ks, rfl, eD, pk, ksub, kl, kb⟩
      rw [ul, List.take_length] at pk
      refine ⟨_, rfl, .inl ⟨D, _, rfl, SqL.of eD, fun q nq => ?_⟩⟩
      have s4 := same_new (o := HO.tup ks) nq
      exact k q ks rws _ ((far kb).trans s4) upd_same (rows_keep pk (.of s4)) lo
end
end K6
set_option Elab.async false
set_option linter.all false
set_option maxRecDepth 100000
set_option maxHeartbeats 4000000
/-! Part X: exceptions of the text as values: made, asked for their class, read. -/
namespace Lk
open PySem PySem.Spec PyProof.Rows L2
/-- an own exception with the one field `value`: its object at a, of the class at C, its dict at d -/
def ErrAt (H : Hp) (C a d : Addr) (v : V) : Prop := H a = some (exo a C (some d)) ∧ H d = some (exd d [("value", v)])
theorem ErrAt.same {H H' : Hp} {C a d : Addr} {v : V} (h : ErrAt H C a d v) (k : Same H H') : ErrAt H' C a d v := ⟨k _ _ h.1, k _ _ h.2⟩
/-- what is asked of such a class: all of it is read off the written part -/
structure ErC (K : PySem.W.Frag) (C fI : Addr) : Prop where
  oex : OexC K C
  init : PySem.W.findIn K (.ref C) "__init__" = some (some (.ref fI))
  noV : PySem.W.findIn K (.ref C) "value" = some none
  ga : PySem.W.findIn K (.ref C) "__getattribute__" = some (some (.builtin "BaseException.__getattribute__"))
  gg : PySem.W.findIn K (.ref C) "__getattr__" = some none
  hd : PySem.W.hasDictIn K C = true
  cl : PySem.W.findIn K (.ref C) "__class__" = some (some (.builtin "object.__class__"))
  ob : PySem.W.mroIn K C (.type "object") = some true
/-- .. of the written part as a whole -/
structure ErK (K : PySem.W.Frag) (fI : Addr) : Prop where
  fn : PySem.W.typeIn K (.ref fI) = some (.type "function")
  cg : PySem.W.specialIn K (.builtin "object.__class__") "__get__" = some (some (.builtin "getset_descriptor.__get__"))
  ct : PySem.W.takesIn K (.builtin "object.__class__") = some true
/-- the promise of that __init__ -/
def spInitV (K : PySem.W.Frag) (fI : Addr) : Sp := fun vs H Q _ => ∃ (a C : Addr) (v : V), vs = [.ref a, v] ∧ ErC K C fI ∧ H a = some (exo a C none) ∧
  ∀ d, H d = none → d ≠ a → Q .non (upd (upd H d (exd d [("value", v)])) a (exo a C (some d)))
section
variable {X : Cx} {lev : Nat} {C fI : Addr} {fD : FuncData} {x : Str} {e : Expr} {t : TE} {p pos : Pos}
/-- C(e) as a value -/
def tErr (C : Addr) (t : TA) : TE := fun σ H Q => t σ H fun vs H1 => ∃ v, vs = [v] ∧ ∀ a d H2, H1 a = none → H1 d = none → Same H1 H2 → ErrAt H2 C a d v → Q (.ref a) H2
theorem pe_err {t : TA} (T : ErC X.K C fI) (TK : ErK X.K fI) (G : FnOk X.prog X.w X.K X.mg X.base CX0 lev fI fD ["self", "value"] (spInitV X.K fI)) (room : Room (lev + 1) X.A) (hb : Binds X.K fD ["self", "value"] [])
    (hg : Gl X x) (hm : X.mg x = some (.ref C)) (ha : PA X [e] t) (hdb : (x == ("__debug__" : Str)) = false := by decide)
    (hst : starEach [e] X.env = (false, eval e X.env) :: starEach [] X.env := by rfl) (hpl : (backTo pos (starEach [] X.env)).any (·.1) = false := by rfl) :
    PE X (.Call (.Name x p) [e] [] pos) (tErr C t) := by
  constructor
  intro pins s σ H Q I want
  obtain ⟨nm, qq, NN, bs, bm, sn, su, ab, col, dd, k0, k1, k2, k3, k5, hC, hbm⟩ := T.oex.cls
  refine wpAny_Call_Name_kw (ld_glob I hg hm ?_ hdb)
  refine PySem.W.callWith_K (h₀ := X.base) I.ok.mod.kin T.oex.kC (thn (ha.run pos pins s σ H _ I want) ?_) hst hpl
  rintro us s1 ⟨vs, H1, I1, rel, v, rfl, q1⟩
  refine ⟨I1.kIn, ?_⟩
  obtain ⟨hp, g, dr, tk, os⟩ := s1
  show wpAny _ _ (call (.ref C) us) _ _ _
  have up : hp.objs.size ≤ hp.objs.size + 1 := Nat.le_succ _
  have free : H1 (hp.objs.size + 1) = none := I1.hok.fresh up
  generalize hA : hp.objs.size + 1 = a at free up
  have keep : ∀ b o, hp.get? b = some o → ((hp.push (PySem.W.kdv_tup us)).push (PySem.HandSPX.excO C hp.objs.size)).get? b = some o :=
    fun b o z => Heap.get?_push_of_some _ (Heap.get?_push_of_some _ z)
  have here : ((hp.push (PySem.W.kdv_tup us)).push (PySem.HandSPX.excO C hp.objs.size)).get? a = some (PySem.HandSPX.excO C hp.objs.size) := by
    rw [← hA]
    heap_get
  have I2 : Inv X pins σ (upd H1 a (exo a C none)) ⟨(hp.push (PySem.W.kdv_tup us)).push (PySem.HandSPX.excO C hp.objs.size), g, dr, tk, os⟩ :=
    I1.laid (t' := tk) (a := a) (o := exo a C none) keep up (exo_ok here)
  have rel2 : Vals [V.ref a, v] (Value.ref a :: us) := .cons rfl rel
  have many : us.length = 1 := (Paired.length rel).symm
  have few : us.length ≤ sizeLine := by rw [many, sizeLine_eq]; decide
  have sp : spInitV X.K fI [V.ref a, v] (upd H1 a (exo a C none)) (fun r H2 => r = .non ∧ Q (.ref a) H2) E0 := by
    refine ⟨a, C, v, rfl, T, upd_same, fun d hd nd => ⟨rfl, q1 a d _ free ?_ ?_ ⟨upd_same, ?_⟩⟩⟩
    · rw [upd_ne nd] at hd; exact hd
    · intro b o z
      have nb := ne_of_none z free
      have nd2 : b ≠ d := fun y => by rw [← y, upd_ne nb, z] at hd; cases hd
      rw [upd_ne nb, upd_ne nd2, upd_ne nb]
      exact z
    · rw [upd_ne nd, upd_same]
  have binds := hb ⟨(hp.push (PySem.W.kdv_tup us)).push (PySem.HandSPX.excO C hp.objs.size), g, dr, tk, os⟩ (Value.ref a :: us) I2.kIn (by simp [many])
  rw [List.append_nil] at binds
  subst hA
  refine wpAny_call (PySem.HandSPX.call_own F.excBase_ValueError (fun Y => PySem.HandSPX.refsVE_contains Y bm hbm) (I1.kIn _ _ hC) (PySem.W.looks_findIn I1.kIn T.init)
    (fun self => PySem.W.bind_fn I1.kIn self TK.fn) few ?_)
  refine codeAny_mono (G.run _ X.stack _ _ ⟨Value.ref (hp.objs.size + 1) :: us, []⟩ (Value.ref (hp.objs.size + 1) :: us) _ _ E0 (room.make C us []) (I2.env0.make C us []) binds rel2 sp) ?_
  intro r s' hq
  cases r with
  | error er => exact hq.elim
  | ok fl =>
    cases fl with
    | ret u =>
      obtain ⟨w', H2, J, rv, e0, q2⟩ := I2.after hq
      subst e0
      exact ⟨rv, .ref (hp.objs.size + 1), H2, J, rfl, q2⟩
    | next => exact False.elim hq
    | brk => exact False.elim hq
    | cont => exact False.elim hq
/-- e.value -/
def tErrV (t : TE) : TE := fun σ H Q => t σ H fun x H1 => ∃ a C d v fI, x = .ref a ∧ ErC X.K C fI ∧ ErrAt H1 C a d v ∧ Q v H1
theorem pe_errV {e : Expr} {t : TE} (he : PE X e t) (hb : attributeBase e "value" X.env (eval e X.env) = eval e X.env := by rfl) : PE X (.Attribute e "value" pos) (tErrV (X := X) t) := by
  constructor
  intro pins s σ H Q I want
  refine attr_of hb (thn (he.run pins s σ H _ I want) ?_)
  rintro u s1 ⟨x, H1, I1, rx, a, C, d, v, fI, rfl, T, ⟨ea, ed⟩, q⟩
  cases (show u = Value.ref a from rx)
  obtain ⟨t1, ho⟩ := exo_at I1.hok ea
  obtain ⟨mA, hns, rel⟩ := exd_at I1.hok ed
  obtain ⟨od, hod, hl⟩ := lookIn_ns hns
  obtain ⟨u, hu, ru⟩ := RelO.some_of (v := v) (o := mA "value") (by
    have := rel "value"
    rw [lookup_put, if_pos rfl] at this
    exact this)
  have J : PySem.W.InstAt s1.heap a { cls := .ref C, dict := some d, data := .fields #[.ref t1, .none, .none, .none, .bool false, .none] } C (some od) := ⟨ho, rfl, rfl, hod⟩
  exact HandSPX.exc_get I1.kIn J T.ga T.gg T.oex.exC (PySem.W.findObj_own T.hd T.noV rfl (by rw [hl, hu])) (handed_of ru) ⟨v, H1, I1.tok _, ru, q⟩
/-- isinstance(e, D) of such an exception -/
def rErrIs (K : PySem.W.Frag) : List V → Hp → VK → Prop := fun xs H Q => ∃ (a C d fI : Addr) (v c : V) (u : Value) (b : Bool), xs = [.ref a, c] ∧ ErC K C fI ∧ ErK K fI ∧ ErrAt H C a d v ∧ ClsV c u ∧ PySem.W.kitOne K (.ref C) u = some b ∧ Q (.bl b) H
theorem call_errIs : CallR X (.builtin "isinstance") (rErrIs X.K) := by
  intro pins s σ H xs us Q I r h
  obtain ⟨a, C, d, fI, v, c, u, b, rfl, T, TK, ⟨ea, ed⟩, hc, hk, q⟩ := h
  obtain ⟨u1, u2, rfl, r1, r2⟩ := vals2 r
  have e2 := hc.eq r2
  subst e2
  cases (show u1 = Value.ref a from r1)
  obtain ⟨t1, ho⟩ := exo_at I.hok ea
  obtain ⟨mA, hns, rel⟩ := exd_at I.hok ed
  obtain ⟨od, hod, _⟩ := lookIn_ns hns
  have J : PySem.W.InstAt s.heap a { cls := .ref C, dict := some d, data := .fields #[.ref t1, .none, .none, .none, .bool false, .none] } C (some od) := ⟨ho, rfl, rfl, hod⟩
  have hcl : (PySem.W.clsIn X.K C).isSome = true := by
    have := T.hd
    unfold PySem.W.hasDictIn at this
    cases z : PySem.W.clsIn X.K C with
    | none => rw [z] at this; simp at this
    | some _ => rfl
  exact PySem.W.kia_one (PySem.W.kitx_exc hcl T.ga T.gg T.oex.exC T.cl TK.cg TK.ct T.ob) I.kIn J hk (fun z => nomatch z) fun tk => ⟨.bl b, H, I.tok tk, rfl, q⟩
end

/-! ### what the written part says of the classes -/
abbrev veMro : List Value := [.type "ValueError", .type "Exception", .type "BaseException", .type "object"]
/-- one class of the text, below the class at L (whose __init__ stands at fI), bound to the name x -/
structure ErRow (K : PySem.W.Frag) (mg : Str → Option Value) (fI : Addr) (ms : List Value) (x : Str) (C : Addr) : Prop where
  at_ : mg x = some (.ref C)
  er : ErC K C fI
  some_ : (PySem.W.clsIn K C).isSome = true
  mro : ∀ b : Value, PySem.W.subIn K (.ref C) b = some ((.ref C :: ms).contains b)
theorem erRow_mk {K : PySem.W.Frag} {h : Heap} {mg : Str → Option Value} (X : K.In h) (G : h.Ns mainGlobals mg) {fI C : Addr} {x : Str} {ms : List Value}
    {nm q : Str} {N : Addr} {bs : List Value} {sn : List Str} {su : List Value} {ab : Bool} {col : Option Bool} {dd : Option Addr} {m0 m1 m2 m3 m5 : Option Value}
    (aC : PySem.W.nsIn K mainGlobals x = some (some (.ref C)))
    (xL : K.lookup C = some (excClassObj nm q C N bs ms true sn su ab col dd m0 m1 m2 m3 m5 "ValueError.__new__"))
    (hms : PySem.HandSPX.refsVE ms = true)
    (sa : PySem.W.findIn K (.ref C) "__setattr__" = some (some (.builtin "object.__setattr__")))
    (ga : PySem.W.findIn K (.ref C) "__getattribute__" = some (some (.builtin "BaseException.__getattribute__")))
    (gg : PySem.W.findIn K (.ref C) "__getattr__" = some none)
    (nv : PySem.W.findIn K (.ref C) "value" = some none)
    (ini : PySem.W.findIn K (.ref C) "__init__" = some (some (.ref fI)))
    (cl : PySem.W.findIn K (.ref C) "__class__" = some (some (.builtin "object.__class__")))
    (kC : PySem.W.keepIn K (.ref C) = true) : ErRow K mg fI ms x C := by
  have hcl : PySem.W.clsIn K C = some { name := nm, bases := bs, mro := .ref C :: ms, ns := N, qualname := q, hasDict := true, slotNames := sn, subclasses := su, abstract := ab, collection := col, hasDel := false } := by
    unfold PySem.W.clsIn
    rw [xL] <;> rfl
  have hmro : ∀ b : Value, PySem.W.mroIn K C b = some ((.ref C :: ms).contains b) := by
    intro b
    unfold PySem.W.mroIn
    rw [hcl] <;> rfl
  have hty : PySem.W.typeIn K (.ref C) = some (.type "type") := by
    show (K.lookup C).map (·.cls) = _
    rw [xL] <;> rfl
  have has : ∀ Y : String, veMro.contains (.type Y) = true → ((.ref C :: ms).contains (.type Y)) = true := by
    intro Y hY
    have := PySem.HandSPX.refsVE_contains Y (.ref C :: ms) (show PySem.HandSPX.refsVE (.ref C :: ms) = true from hms)
    rw [this]
    exact hY
  refine ⟨PySem.W.mg_of X G aC, ⟨⟨⟨nm, q, N, bs, ms, sn, su, ab, col, dd, m0, m1, m2, m3, m5, xL, hms⟩, sa, ?_, hty, kC⟩, ini, nv, ga, gg, ?_, cl, ?_⟩, ?_, hmro⟩
  · show PySem.W.mroIn K C _ = _
    rw [hmro, has "BaseException" (by decide +kernel)]
  · unfold PySem.W.hasDictIn
    rw [hcl] <;> rfl
  · rw [hmro, has "object" (by decide +kernel)]
  · rw [hcl] <;> rfl
/-- isinstance, as the classes' chains tell it -/
theorem ErRow.kit {K : PySem.W.Frag} {mg : Str → Option Value} {fI C D : Addr} {ms ms' : List Value} {x y : Str} (r : ErRow K mg fI ms x C) (r' : ErRow K mg fI ms' y D) :
    PySem.W.kitOne K (.ref C) (.ref D) = some ((.ref C :: ms).contains (.ref D)) := by
  unfold PySem.W.kitOne
  by_cases e : C = D
  · subst e
    rw [if_pos (by simp)]
    simp
  · have n : ((Value.ref C == Value.ref D) = true) ↔ False := by simp [e]
    rw [if_neg (by rw [n]; exact id)]
    show (if ((PySem.W.clsIn K D).isSome && PySem.W.typeIn K (.ref D) == some (.type "type")) = true then PySem.W.subIn K (.ref C) (.ref D) else none) = _
    rw [if_pos (by rw [r'.some_, r'.er.oex.tyC]; rfl)]
    exact r.mro _
theorem ErRow.kitT {K : PySem.W.Frag} {mg : Str → Option Value} {fI C : Addr} {ms : List Value} {x : Str} (r : ErRow K mg fI ms x C) (T : String) (hT : PySem.W.kitMeta T = true) :
    PySem.W.kitOne K (.ref C) (.type T) = some ((.ref C :: ms).contains (.type T)) := by
  unfold PySem.W.kitOne
  rw [if_neg (by simp)]
  show (if PySem.W.kitMeta T = true then PySem.W.subIn K (.ref C) (.type T) else none) = _
  rw [if_pos hT]
  exact r.mro _
/-- a row each for several classes -/
inductive ErRows (K : PySem.W.Frag) (mg : Str → Option Value) (fI : Addr) (ms : List Value) : List Str → List Addr → Prop
  | nil : ErRows K mg fI ms [] []
  | cons {x : Str} {C : Addr} {xs : List Str} {Cs : List Addr} : ErRow K mg fI ms x C → ErRows K mg fI ms xs Cs → ErRows K mg fI ms (x :: xs) (C :: Cs)
theorem ErRows.get {K : PySem.W.Frag} {mg : Str → Option Value} {fI : Addr} {ms : List Value} : ∀ {xs : List Str} {Cs : List Addr} (i : Nat) {x : Str}, ErRows K mg fI ms xs Cs → xs[i]? = some x → ErRow K mg fI ms x (Cs.getD i 0)
  | _, _, _, _, .nil, e => by simp at e
  | _, _, 0, _, .cons r _, e => by simp at e; subst e; exact r
  | _, _, i + 1, _, .cons _ rs, e => by
    have := ErRows.get i rs (by simpa using e)
    simpa using this
theorem ErRows.length {K : PySem.W.Frag} {mg : Str → Option Value} {fI : Addr} {ms : List Value} : ∀ {xs : List Str} {Cs : List Addr}, ErRows K mg fI ms xs Cs → xs.length = Cs.length
  | _, _, .nil => rfl
  | _, _, .cons _ r => congrArg (· + 1) r.length
theorem ErRows.mem {K : PySem.W.Frag} {mg : Str → Option Value} {fI : Addr} {ms : List Value} {C : Addr} : ∀ {xs : List Str} {Cs : List Addr}, ErRows K mg fI ms xs Cs → C ∈ Cs → ∃ x, ErRow K mg fI ms x C
  | _, _, .nil, h => by simp at h
  | _, _, .cons r rs, h => by
    rcases List.mem_cons.mp h with rfl | h
    · exact ⟨_, r⟩
    · exact rs.mem h
end Lk
set_option Elab.async false
set_option linter.all false
set_option maxRecDepth 100000
set_option maxHeartbeats 4000000
/-! Part Ex: an exception that is caught and stays behind the suite. -/
namespace Lk
open PySem PySem.Spec PyProof.Rows L2
/-- at a: an exception that was caught and stays, of the class cls, its dict d -/
def exq (a : Addr) (cls : Value) (d : Option Addr) : HO := .ext fun h => ∃ oe vs, h.get? a = some oe ∧ Zc cls d oe ∧ oe.data = .fields vs
theorem exq_ok {P : Program} {w : World} {H : Hp} {h : Heap} {a : Addr} {cls : Value} {d : Option Addr} {oe : Obj} {vs : Array Value} (e : h.get? a = some oe) (z : Zc cls d oe) (f : oe.data = .fields vs) : ObjOk P w H h a (exq a cls d) :=
  ⟨⟨oe, vs, e, z, f⟩, ⟨oe, e⟩, fun _ _ ⟨o, v, x, y, u⟩ k => ⟨o, v, k _ x, y, u⟩⟩
theorem exq_at {P : Program} {w : World} {H : Hp} {h : Heap} {a : Addr} {cls : Value} {d : Option Addr} (hok : HOk P w H h) (e : H a = some (exq a cls d)) : ∃ oe vs, h.get? a = some oe ∧ Zc cls d oe ∧ oe.data = .fields vs := by
  have x : ObjOk P w H h a (exq a cls d) := hok a _ e
  exact x.1
section
variable {X : Cx} {pins : List (Addr × Obj)} {σ : L2.St} {H : Hp} {s : Shared} {a : Addr} {cls : Value} {d : Option Addr} {oe : Obj} {vs : Array Value}
/-- such an exception is taken among what is known -/
theorem track (I : Inv X pins σ H s) (e : s.heap.get? a = some oe) (z : Zc cls d oe) (f : oe.data = .fields vs) (na : H a = none) (nL : a ≠ X.env.locals) (n0 : X.s_0.heap.get? a = none) (np : ∀ p ∈ X.pn ++ pins, p.1 ≠ a) :
    Inv X pins σ (upd H a (exq a cls d)) s := by
  have far : ∀ {b : Addr} {u : HO}, H b = some u → b ≠ a := fun q => ne_of_none q na
  refine ⟨I.ok, I.os, I.bare, ⟨I.base.keep, I.base.slot, fun b o q n x => ?_, I.base.there, fun b xs q => ?_, fun b o u q => ?_, fun b ps q => ?_⟩, I.loc, I.cell, ?_, fun x c q => ?_, fun p hp => ?_, HOk.laidN I.hok (fun _ _ q => q) na (exq_ok e z f), I.len⟩
  · rw [upd_ne (fun y => by rw [y, n0] at q; cases q)]
    exact I.base.free b o q n x
  · have t := I.base.tups b xs q
    rw [upd_ne (far t)]
    exact t
  · have t := I.base.frzs b o u q
    rw [upd_ne (far t)]
    exact t
  · obtain ⟨more, t⟩ := I.base.tbls b ps q
    exact ⟨more, by rw [upd_ne (far t)]; exact t⟩
  · rw [upd_ne (Ne.symm nL)]
    exact I.free
  · have nc : c ≠ a := fun y => by
      obtain ⟨v, o, h1, h2⟩ := I.cell x c q
      rw [y, e] at h1
      cases h1
      rw [f] at h2
      cases h2
    rw [upd_ne nc]
    exact I.freeC x c q
  · obtain ⟨h1, h2, h3⟩ := I.pin p hp
    exact ⟨h1, by rw [upd_ne (np p hp)]; exact h2, h3⟩
theorem suiteT (I : Inv X pins σ H s) (a : Addr) : Inv (X.suite a (X.pn ++ pins)) [] σ H s :=
  ⟨I.ok.suite _ _, I.os, I.bare, I.base, I.loc, I.cell, I.free, I.freeC, fun p hp => I.pin p (by rw [List.append_nil] at hp; exact hp), I.hok, I.len⟩
theorem unsuiteT {pn' : List (Addr × Obj)} (ok : X.Ok) (I : Inv (X.suite a (X.pn ++ pins)) pn' σ H s) : Inv X pins σ H s :=
  ⟨ok, I.os, I.bare, I.base, I.loc, I.cell, I.free, I.freeC, fun p hp => I.pin p (List.mem_append_left _ hp), I.hok, I.len⟩
end
/-- the ends behind a suite whose name, in slot i, goes -/
def behind (i : Nat) (D : Ends) : Ends := { nx := fun σ H => D.nx (σ.set i none) H, rt := D.rt, bk := fun σ H => D.bk (σ.set i none) H, ct := fun σ H => D.ct (σ.set i none) H }
/-- what 'except x as n: suite' wishes of an exception of the body that it catches for sure -/
def wTrk (K : PySem.W.Frag) (c : Value) (i : Nat) (ts : TS) (D : Ends) : WX := fun cls d σ H =>
  PySem.W.exmOne K cls c = some true ∧ ∀ a, H a = none → ts (behind i D) (σ.set i (some (.ref a))) (upd H a (exq a cls d))
section
variable {X : Cx} {x n : Str} {c : Value} {i : Nat} {body suite : List Stmt} {b₀ : Stmt} {np pos pos' : Pos} {tb : WX → TS} {ts : TS}
theorem ps_try_trk (hs : X.stack = X.env :: X.outer) (hf : X.env.frame = some X.env.locals) (hex : X.ex = []) (hN : X.N.Nodup) (hi : X.N[i]? = some n) (hl : X.env.kindOf n = some .local) (hc : Names X x c)
    (hb : ∀ (W : WX) (pn : List (Addr × Obj)) (xe : Value → Shared → Prop), Takes (X.tr pn xe) W → PassesOwn (model X.prog X.w) X.A X.env xe → PSs (X.tr pn xe) body (tb W))
    (hu : ∀ (a : Addr) (pn : List (Addr × Obj)), PSs (X.suite a pn) (b₀ :: suite) ts) :
    PS X (.Try body [.ExceptHandler (some (.Name x np)) (some n) (b₀ :: suite) pos'] [] [] pos) (fun D σ H => tb (wTrk X.K c i ts D) D σ H) := by
  constructor
  intro pins s σ H D I want
  have ok := I.ok
  have fr : X.A.frames = some (X.env :: X.outer) := ok.frames.trans (congrArg some hs)
  refine wpAny_Try_except (wpAny_mono ((hb (wTrk X.K c i ts D) (X.pn ++ pins) _ ?takes PassesOwn.looking).run [] s σ H D (I.toTry _) want) ?fine (fun _ _ z => z))
  case fine =>
    intro fl s1 z
    cases fl with
    | next => exact wpAny_execs_nil (let ⟨p, q, J, r⟩ := z; ⟨p, q, J.ofTry ok, r⟩)
    | brk => exact let ⟨p, q, J, r⟩ := z; ⟨p, q, J.ofTry ok, r⟩
    | cont => exact let ⟨p, q, J, r⟩ := z; ⟨p, q, J.ofTry ok, r⟩
    | ret u => exact let ⟨v, p, q, J, r⟩ := z; ⟨v, p, q, J.ofTry ok, r⟩
  case takes =>
    rintro _ s' ⟨a, B, sI, pins', σ', H', cls, d, rfl, J', nb, up, sky, na, os, ag, yes, go⟩
    have J : Inv X pins σ' H' sI := J'.ofTry ok
    rw [show (X.tr (X.pn ++ pins) _).stack = X.env :: X.outer from hs] at sky
    show wpAny _ X.A (noteFrame (.ref a) X.env) _ _ _
    refine Sky.land Zc.steady fr hf sky fun h3 g3 up3 => ?_
    have J3 : Inv X pins σ' H' { s' with heap := h3 } := J.landed nb g3.1 (up.trans up3) os ag
    obtain ⟨o3, v3, at3, z3, f3⟩ := g3.there
    have nf : a ∉ frs (X.env :: X.outer) := fun m => by
      obtain ⟨_, o, e, no⟩ := g3.2.2.1.mem m
      rw [at3] at e
      cases e
      exact no _ f3
    have nL : a ≠ X.env.locals := fun y => nf (List.mem_filterMap.mpr ⟨X.env, List.mem_cons_self, by rw [hf, y]⟩)
    have gone : sI.heap.get? a = none := by
      cases q : sI.heap.get? a with
      | none => rfl
      | some o =>
        have y := nb a o q (by rw [hs]; exact nf)
        rw [g3.2.1] at y
        cases y
    have n0 : X.s_0.heap.get? a = none := by
      cases q : X.s_0.heap.get? a with
      | none => rfl
      | some o =>
        obtain ⟨o', y⟩ := J.base.there a o q (by rw [hex]; exact fun y => nomatch y)
        rw [gone] at y
        cases y
    have npn : ∀ p ∈ X.pn ++ pins, p.1 ≠ a := fun p hp y => by
      have q := (J.pin p hp).1
      rw [y, gone] at q
      cases q
    refine wpAny_handleBy_cons (codeAny_handlers_test ?_) (fun y => nomatch y)
    have T3 := suiteT (track J3 at3 z3 f3 na nL n0 npn) a
    have ty : PySem.W.Looks (model X.prog X.w) h3 (typeOf (.ref a)) cls := fun _ _ _ _ k q => wpAny_typeOf_ref (k _ _ at3) (by rw [z3.1]; exact q)
    have asked := (PySem.W.exm_one (M := model X.prog X.w) J3.kIn ty yes)
    have name : ∀ {Q E : Value → Shared → Prop}, Q c { s' with heap := h3 } → wpAny (model X.prog X.w) (X.A.mark (some (.ref a))) (eval (.Name x np) X.env) Q E { s' with heap := h3 } := by
      intro Q E q
      obtain ⟨g1, g2, g3 | ⟨g3, g4, g5⟩⟩ := hc
      · exact ld_glob T3 g1 g3 q g2
      · exact ld_blt T3 g1 g3 g4 q g5 g2
    refine name (asked.here (codeAny_handlers_suite_as ?_))
    refine HandSPX.lands_againZ g3 fun h4 g4 up4 => ?_
    have J4 : Inv X pins σ' H' { s' with heap := h4 } := J.landed nb g4.1 ((up.trans up3).trans up4) os ag
    obtain ⟨o4, v4, at4, z4, f4⟩ := g4.there
    refine store_ok (X := X.suite a (X.pn ++ pins)) (v := .ref a) (suiteT (track J4 at4 z4 f4 na nL n0 npn) a) hN hi (.inl hl) rfl (fun s5 S5 => ?_) (.inr hl)
    refine wpAny_mono ((hu a (X.pn ++ pins)).run [] s5 _ _ _ S5 (go a na)) ?_ (fun _ _ y => y.elim)
    intro fl s6 z
    have out : ∀ {τ : St} {G : Hp} {Q : Shared → Prop}, Inv (X.suite a (X.pn ++ pins)) [] τ G s6 → (∀ s7, Inv X pins (τ.set i none) G s7 → Q s7) →
        wpAny (model X.prog X.w) X.A (do bindName X.env n .none; unbindBehindTheSuite X.env n pos') (fun _ s7 => Q s7) X.xe s6 :=
      fun S6 q => gone_ok (unsuiteT ok S6) hN hi hl q
    cases fl with
    | next => exact let ⟨τ, G, S6, r⟩ := z; out S6 fun s7 J7 => ⟨_, _, J7, r⟩
    | brk => exact let ⟨τ, G, S6, r⟩ := z; out S6 fun s7 J7 => ⟨_, _, J7, r⟩
    | cont => exact let ⟨τ, G, S6, r⟩ := z; out S6 fun s7 J7 => ⟨_, _, J7, r⟩
    | ret u => exact let ⟨v, τ, G, S6, r1, r2⟩ := z; out S6 fun s7 J7 => ⟨v, _, _, J7, r1, r2⟩
end
/-! ### what is known of it: its class, its field -/
/-- at a: a caught exception of the class at C, its dict at d, with the one field `value` -/
def CauAt (H : Hp) (C a d : Addr) (v : V) : Prop := H a = some (exq a (.ref C) (some d)) ∧ H d = some (.xd [("value", v)])
theorem CauAt.keeps {H H' : Hp} {C a d : Addr} {v : V} (h : CauAt H C a d v) (k : ∀ b o, H b = some o → (∀ ps, o ≠ .tbl ps) → H' b = some o) : CauAt H' C a d v :=
  ⟨k _ _ h.1 (fun _ z => by cases (show HO.ext _ = HO.tbl _ from z)), k _ _ h.2 (fun _ z => by cases z)⟩
theorem CauAt.same {H H' : Hp} {C a d : Addr} {v : V} (h : CauAt H C a d v) (k : Same H H') : CauAt H' C a d v := h.keeps fun b o e _ => k b o e
section
variable {X : Cx} {e : Expr} {t : TE} {pos : Pos}
/-- e.value -/
def tCauV (K : PySem.W.Frag) (t : TE) : TE := fun σ H Q => t σ H fun x H1 => ∃ a C d v fI, x = .ref a ∧ ErC K C fI ∧ CauAt H1 C a d v ∧ Q v H1
theorem pe_cauV (he : PE X e t) (hb : attributeBase e "value" X.env (eval e X.env) = eval e X.env := by rfl) : PE X (.Attribute e "value" pos) (tCauV X.K t) := by
  constructor
  intro pins s σ H Q I want
  refine attr_of hb (thn (he.run pins s σ H _ I want) ?_)
  rintro u s1 ⟨x, H1, I1, rx, a, C, d, v, fI, rfl, T, ⟨ea, ed⟩, q⟩
  cases (show u = Value.ref a from rx)
  obtain ⟨oe, vs, ho, hz, hf⟩ := exq_at I1.hok ea
  obtain ⟨mA, hns, rel⟩ : ObjOk X.prog X.w H1 s1.heap d (.xd [("value", v)]) := I1.hok d _ ed
  obtain ⟨od, hod, hl⟩ := lookIn_ns hns
  obtain ⟨u, hu, ru⟩ := RelO.some_of (v := v) (o := mA "value") (by
    have := rel "value"
    rw [lookup_put, if_pos rfl] at this
    exact this)
  have J : PySem.W.InstAt s1.heap a oe C (some od) := ⟨ho, hz.1, by unfold PySem.W.notCls; rw [hf] <;> rfl, by rw [hz.2]; exact hod⟩
  exact HandSPX.exc_get I1.kIn J T.ga T.gg T.oex.exC (PySem.W.findObj_own T.hd T.noV rfl (by rw [hl, hu])) (handed_of ru) ⟨v, H1, I1.tok _, ru, q⟩
/-- isinstance(e, D) -/
def rCauIs (K : PySem.W.Frag) : List V → Hp → VK → Prop := fun xs H Q => ∃ (a C d fI : Addr) (v c : V) (u : Value) (b : Bool), xs = [.ref a, c] ∧ ErC K C fI ∧ ErK K fI ∧ CauAt H C a d v ∧ ClsV c u ∧ PySem.W.kitOne K (.ref C) u = some b ∧ Q (.bl b) H
theorem call_cauIs : CallR X (.builtin "isinstance") (rCauIs X.K) := by
  intro pins s σ H xs us Q I r h
  obtain ⟨a, C, d, fI, v, c, u, b, rfl, T, TK, ⟨ea, ed⟩, hc, hk, q⟩ := h
  obtain ⟨u1, u2, rfl, r1, r2⟩ := vals2 r
  have e2 := hc.eq r2
  subst e2
  cases (show u1 = Value.ref a from r1)
  obtain ⟨oe, vs, ho, hz, hf⟩ := exq_at I.hok ea
  obtain ⟨mA, hns, rel⟩ : ObjOk X.prog X.w H s.heap d (.xd [("value", v)]) := I.hok d _ ed
  obtain ⟨od, hod, _⟩ := lookIn_ns hns
  have J : PySem.W.InstAt s.heap a oe C (some od) := ⟨ho, hz.1, by unfold PySem.W.notCls; rw [hf] <;> rfl, by rw [hz.2]; exact hod⟩
  have hcl : (PySem.W.clsIn X.K C).isSome = true := by
    have := T.hd
    unfold PySem.W.hasDictIn at this
    cases z : PySem.W.clsIn X.K C with
    | none => rw [z] at this; simp at this
    | some _ => rfl
  exact PySem.W.kia_one (PySem.W.kitx_exc hcl T.ga T.gg T.oex.exC T.cl TK.cg TK.ct T.ob) I.kIn J hk (fun z => nomatch z) fun tk => ⟨.bl b, H, I.tok tk, rfl, q⟩
end
end Lk
set_option Elab.async false
set_option linter.all false
set_option maxRecDepth 100000
set_option maxHeartbeats 4000000
set_option pp.maxSteps 1200
set_option pp.deepTerms false
namespace K6
open PySem PySem.Spec PyProof.Rows L2 Lk
section
variable {P : Program} {w : World} {K : PySem.W.Frag} {mg : Str → Option Value} {base : Heap} {f : Addr} {fd : FuncData}
theorem leastF_congr {p q : List Str → Bool} {rws : List (List Str)} (h : ∀ r ∈ rws, p r = q r) : leastF p rws = leastF q rws := by
  unfold leastF
  generalize ([] : List (List Str)) = kept
  induction rws generalizing kept with
  | nil => rfl
  | cons r rws ih =>
    rw [List.foldl_cons, List.foldl_cons]
    have e : stepF p kept r = stepF q kept r := by unfold stepF; rw [h r List.mem_cons_self]
    rw [e]
    exact ih (fun x hx => h x (List.mem_cons_of_mem _ hx)) _
theorem leastF_mem {p : List Str → Bool} {rws : List (List Str)} : ∀ r ∈ leastF p rws, r ∈ rws := by
  unfold leastF
  have : ∀ (rws kept : List (List Str)), ∀ r ∈ rws.foldl (stepF p) kept, r ∈ kept ∨ r ∈ rws := by
    intro rws
    induction rws with
    | nil => exact fun kept r h => .inl h
    | cons x rws ih =>
      intro kept r h
      rw [List.foldl_cons] at h
      rcases ih _ r h with h | h
      · unfold stepF at h
        split at h
        · rcases List.mem_append.mp h with h | h
          · exact .inl h
          · exact .inr (by rw [List.mem_singleton.mp h]; exact List.mem_cons_self)
        · exact .inl h
      · exact .inr (List.mem_cons_of_mem _ h)
  intro r h
  rcases this rws [] r h with h | h
  · cases h
  · exact h
theorem stepF_len1 (p : List Str → Bool) : ∀ (rws kept : List (List Str)), (rws.foldl (stepF p) kept).length ≤ kept.length + rws.length
  | [], kept => Nat.le_refl _
  | r :: rws, kept => by
    rw [List.foldl_cons, List.length_cons]
    have h1 := stepF_len1 p rws (stepF p kept r)
    have h2 := stepF_len p kept r
    omega
theorem leastF_len (p : List Str → Bool) (rws : List (List Str)) : (leastF p rws).length ≤ rws.length := by
  have := stepF_len1 p rws []
  simpa [leastF] using this
theorem eqvT_rows (rows : List (List Str)) : PyData.eqv (.tuple (rows.map fun r => PyData.tuple (strsD r))) (.tuple []) = decide (rows = []) := by
  cases rows with
  | nil => simp [PyData.eqv, PyData.eqvAll]
  | cons r rows => simp [PyData.eqv, PyData.eqvAll]
def spIsTold : Sp := fun vs H Q _ => ∃ (t : Addr) (xs : List V) (u wd : Str) (n : Int), vs = [.ref t, .str wd, .int n] ∧ H t = some (.tup (.str u :: xs)) ∧ Q (.bl (decide ((xs.length : Int) + 1 = n) && decide (u = wd))) H
theorem scIsTold : FnScope ["value", "word", "many"] ["value", "word", "many"] (defScope sIsTold) := ⟨rfl, rfl, rfl, by decide +kernel, rfl, by decide +kernel, by decide +kernel⟩
theorem ok_isTold {fR : Addr} {fdR : FuncData} (F : Fun K "is_told" "is_told" sIsTold f fd) (T : Bl mg) (Cc : Cn mg) (FR : Fun K "is_row" "is_row" sIsRow fR fdR) (bR : Binds K fdR ["value", "many"] []) (mR : mg "is_row" = some (.ref fR)) : FnOk P w K mg base CX0 2 f fd ["value", "word", "many"] spIsTold := by
  have GR : FnOk P w K mg base CX0 1 fR fdR ["value", "many"] spIsRow := ok_isRow FR T Cc
  refine F.ok scIsTold (fun vs H Q E h => ?_) (fun cdv A outer s H vs Q E hr h => ?_)
  · obtain ⟨t, xs, u, wd, n, rfl, _⟩ := h
    rfl
  · obtain ⟨t, xs, u, wd, n, rfl, ht, k⟩ := h
    refine ⟨_, pss_one (ps_ret (pe_and (pe_call GR hr (by rfl) mR FR.kp bR .nil pass0 (pa_cons (pv 0) (pa_cons (pv 2) pa_nil))) (pe_one (pe_cmpR op_eq (pe_ix ix_tup (pv 0) pe_int (fun _ _ => rfl)) (pv 1) (nomark _))))), ?_⟩
    refine ⟨_, rfl, _, rfl, t, _, n, rfl, ht, _, rfl, ?_⟩
    by_cases h : (xs.length : Int) + 1 = n
    · have h1 : decide (V.int (V.str u :: xs).length = V.int n) = true := decide_eq_true (by rw [← h]; rfl)
      refine iteA h1 ⟨_, rfl, t, _, _, _, rfl, rfl, SqT.of ht, at0 rfl, _, rfl, rfl, ?_⟩
      rw [decide_eq_true h, Bool.true_and] at k
      have e : decide (V.str u = V.str wd) = decide (u = wd) := by
        by_cases q : u = wd
        · rw [q]
          simp
        · simp [q]
      rw [e]
      exact k
    · have h1 : decide (V.int (V.str u :: xs).length = V.int n) = false := decide_eq_false fun e => h (by
        have := (V.int.inj e)
        rw [← this]
        rfl)
      rw [decide_eq_false h, Bool.false_and] at k
      exact iteB h1 k
end
end K6
set_option Elab.async false
set_option linter.all false
set_option maxRecDepth 100000
set_option maxHeartbeats 4000000
set_option pp.maxSteps 1200
set_option pp.deepTerms false
namespace K6
open PySem PySem.Spec PyProof.Rows L2 Lk
section
variable {P : Program} {w : World} {K : PySem.W.Frag} {mg : Str → Option Value} {base : Heap} {f : Addr} {fd : FuncData}
/-- the spots of one keeper -/
def spK (k : KP) : List Spot := (List.range k.2.length).map fun m => (k.1, m)
theorem spK_len (k : KP) : (spK k).length = k.2.length := by unfold spK; rw [List.length_map, List.length_range]
end
end K6
set_option Elab.async false
set_option linter.all false
set_option maxRecDepth 100000
set_option maxHeartbeats 4000000
set_option pp.maxSteps 1200
set_option pp.deepTerms false
namespace K6
open PySem PySem.Spec PyProof.Rows L2 Lk
section
variable {P : Program} {w : World} {K : PySem.W.Frag} {mg : Str → Option Value} {base : Heap} {f : Addr} {fd : FuncData}
abbrev sNumOf : Stmt := top 11
/-- sums that come to the pieces of a keeper -/
structure SumsOk (L : Lore) (kq : KP) (ys : List Str) (sums : List (List Spot)) : Prop where
  sub : ∀ ss ∈ sums, ss.Sublist (spotsIn L ys)
  odd : (sums.map fun ss => oddL L.parts (ss.map (pieceOf L))) = (spK kq).map (pieceOf L)
theorem SumsOk.len {L : Lore} {kq : KP} {ys : List Str} {sums : List (List Spot)} (h : SumsOk L kq ys sums) : sums.length = kq.2.length := by
  have := congrArg List.length h.odd
  rwa [List.length_map, List.length_map, spK_len] at this
def spNumOf (K : PySem.W.Frag) : Sp := fun vs H Q _ => ∃ (m : Nat) (p : Addr) (xs : List V), vs = [.int (m : Int), .ref p] ∧ SqT K H p xs ∧ m < xs.length ∧ Q (.bl true) H
theorem scNumOf : FnScope ["value", "some"] ["value", "some"] (defScope sNumOf) := ⟨rfl, rfl, rfl, by decide +kernel, rfl, by decide +kernel, by decide +kernel⟩
theorem ok_numOf {f1 : Addr} {fd1 : FuncData} (F : Fun K "is_number_of" "is_number_of" sNumOf f fd) (T : Bl mg)
    (G1 : FnOk P w K mg base CX0 2 f1 fd1 ["value", "low", "high"] spFromTo) (a1 : At K mg "is_from_to" f1 fd1 ["value", "low", "high"]) :
    FnOk P w K mg base CX0 3 f fd ["value", "some"] (spNumOf K) := by
  refine F.ok scNumOf (fun vs H Q E h => ?_) (fun cdv A outer s H vs Q E hr h => ?_)
  · obtain ⟨m, p, xs, rfl, _⟩ := h
    rfl
  · obtain ⟨m, p, xs, rfl, hp, ml, k⟩ := h
    refine ⟨_, pss_one (ps_ret (pe_call G1 hr (by rfl) a1.m a1.kp a1.b .nil pass0 (pa_cons (pv 0) (pa_cons pe_int (pa_cons (pe_op op_sub (pe_callB call_len_seq (by rfl) T.len PySem.boot_len (pa_cons (pv 1) pa_nil)) pe_int) pa_nil))))), ?_⟩
    refine ⟨_, rfl, _, rfl, p, xs, rfl, .inr hp, _, _, rfl, rfl, _, _, _, rfl, by omega, by omega, k⟩
end
end K6
set_option Elab.async false
set_option linter.all false
set_option maxRecDepth 100000
set_option maxHeartbeats 4000000
set_option pp.maxSteps 1200
set_option pp.deepTerms false
namespace K6
open PySem PySem.Spec PyProof.Rows L2 Lk
section
variable {P : Program} {w : World} {K : PySem.W.Frag} {mg : Str → Option Value} {base : Heap} {f : Addr} {fd : FuncData}
abbrev sAllLots : Stmt := top 48
def retLScope (st : Stmt) (i : Nat) : Scope := match (defBody st).getD i (.Pass ⟨0, 0, 0, 0⟩) with
  | .Return (some (.ListComp _ _ sc _)) _ => sc
  | _ => defScope st
/-- all choices of places, the later places in the later half -/
def rowsN : Nat → List (List Nat)
  | 0 => [[]]
  | n + 1 => rowsN n ++ (rowsN n).map (· ++ [n])
theorem rowC_succ (n c : Nat) : rowC (n + 1) c = rowC n c ++ (if c / 2 ^ n % 2 = 1 then [n] else []) := by
  unfold rowC
  rw [List.range_succ, List.filter_append]
  congr 1
  by_cases h : c / 2 ^ n % 2 = 1
  · simp [h]
  · simp [h]
theorem rowsN_eq : ∀ n, rowsN n = (List.range (2 ^ n)).map (rowC n)
  | 0 => by
    show [[]] = (List.range 1).map (rowC 0)
    rfl
  | n + 1 => by
    have e : List.range (2 ^ (n + 1)) = List.range (2 ^ n) ++ (List.range (2 ^ n)).map (2 ^ n + ·) := by
      rw [Nat.pow_succ, Nat.mul_two, List.range_add]
    rw [rowsN, rowsN_eq n, e, List.map_append, List.map_map, List.map_map]
    congr 1
    · refine List.map_congr_left fun c hc => ?_
      have lt := List.mem_range.mp hc
      rw [rowC_succ, Nat.div_eq_of_lt lt]
      simp
    · refine List.map_congr_left fun c hc => ?_
      have lt := List.mem_range.mp hc
      show rowC n c ++ [n] = rowC (n + 1) (2 ^ n + c)
      have d : (2 ^ n + c) / 2 ^ n = 1 := by
        rw [Nat.add_div_left _ (Nat.pow_pos (by decide)), Nat.div_eq_of_lt lt]
      rw [rowC_succ, d]
      have e2 : rowC n (2 ^ n + c) = rowC n c := rowC_congr fun p hp => by
        have : 2 ^ n = 2 ^ p * (2 * 2 ^ (n - p - 1)) := by
          rw [← Nat.mul_assoc, Nat.mul_comm (2 ^ p) 2, Nat.mul_comm 2, ← Nat.pow_succ, ← Nat.pow_add]
          congr 1
          omega
        rw [this, Nat.mul_add_div (Nat.pow_pos (by decide)), Nat.mul_add_mod]
      rw [e2]
      rfl
theorem rowsN_len (n : Nat) : (rowsN n).length = 2 ^ n := by rw [rowsN_eq, List.length_map, List.length_range]
theorem paired_map_eq2 {α β γ : Type} {R : α → β → Prop} {f : α → γ} {g : β → γ} (h : ∀ a b, R a b → f a = g b) : ∀ {xs : List α} {ys : List β}, Paired R xs ys → xs.map f = ys.map g
  | _, _, .nil => rfl
  | _, _, .cons r t => by rw [List.map_cons, List.map_cons, h _ _ r, paired_map_eq2 h t]
theorem paired_mem2 {α β : Type} {R : α → β → Prop} : ∀ {xs : List α} {ys : List β}, Paired R xs ys → ∀ x ∈ xs, ∃ y ∈ ys, R x y
  | _, _, .nil, x, h => by cases h
  | _, _, .cons r t, x, h => by
    rcases List.mem_cons.mp h with rfl | h
    · exact ⟨_, List.mem_cons_self, r⟩
    · obtain ⟨y, h1, h2⟩ := paired_mem2 t x h
      exact ⟨y, List.mem_cons_of_mem _ h1, h2⟩
def RelI (H : Hp) (v : V) (ns : List Nat) : Prop := ∃ t, v = V.ref t ∧ H t = some (.tup ((ns.map fun p : Nat => (p : Int)).map V.int))
theorem RelI.keepP {H H' : Hp} (k : Keep H H') (v : V) (r : List Nat) (h : RelI H v r) : RelI H' v r := by
  obtain ⟨t, e1, e2⟩ := h
  exact ⟨t, e1, k _ _ e2 fun _ z => by cases z⟩
def RelPT (H : Hp) (v : V) (ns : List Nat) : Prop := ∃ t b, v = V.ref t ∧ H t = some (.tup [.int (ns.length : Int), .ref b]) ∧ H b = some (.tup ((ns.map fun p : Nat => (p : Int)).map V.int))
theorem RelPT.inj {H : Hp} {v : V} {ns ms : List Nat} (h : RelPT H v ns) (g : RelPT H v ms) : ns = ms := by
  obtain ⟨t, b, e1, e2, e3⟩ := h
  obtain ⟨t', b', f1, f2, f3⟩ := g
  rw [e1] at f1
  cases f1
  rw [e2] at f2
  injection f2 with f2
  injection f2 with f2
  injection f2 with f4 f5
  injection f5 with f5 _
  injection f5 with f5
  subst f5
  rw [e3] at f3
  injection f3 with f3
  injection f3 with f3
  have := (List.map_inj_right (fun a b h => V.int.inj h)).mp f3
  exact (List.map_inj_right (fun a b h => Int.ofNat.inj h)).mp this
theorem RelPT.keepP {H H' : Hp} (k : Keep H H') (v : V) (r : List Nat) (h : RelPT H v r) : RelPT H' v r := by
  obtain ⟨t, b, e1, e2, e3⟩ := h
  exact ⟨t, b, e1, k _ _ e2 (fun _ z => by cases z), k _ _ e3 fun _ z => by cases z⟩
def spAllLots (K : PySem.W.Frag) : Sp := fun vs H Q _ => ∃ (n : Addr) (zs : List Str), vs = [.ref n] ∧ SqT K H n (zs.map V.str) ∧ zs.length ≤ 6 ∧
  ∀ (D : Addr) (ts : List V) (rws : List (List Str)) (H' : Hp), Same H H' → H D = none → H' D = some (.lst ts) → Paired (RelT H') ts rws → LotsOk zs rws → Q (.ref D) H'
abbrev nmAL : List Str := ["names", "found", "place", "lot", "ranked", "size"]
theorem scAllLots : FnScope nmAL ["names"] (defScope sAllLots) := ⟨rfl, rfl, rfl, by decide +kernel, rfl, by decide +kernel, by decide +kernel⟩
def tPlacesL (K : PySem.W.Frag) : TE := fun σ H Q => tLc (iTup K (tVar 3)) (gName 2) tYes (tOp (rIxT K) (tVar 0) (tVar 2)) [2] σ H fun x H1 => kTup K x H1 Q
theorem ok_allLots (F : Fun K "_law_all_lots" "_law_all_lots" sAllLots f fd) (T : Bl mg) (Cc : Cn mg) : FnOk P w K mg base CX0 1 f fd ["names"] (spAllLots K) := by
  refine F.ok scAllLots (fun vs H Q E h => ?_) (fun cdv A outer s H vs Q E hr h => ?_)
  · obtain ⟨n, zs, rfl, _⟩ := h
    rfl
  · obtain ⟨n, zs, rfl, hn, z6, k⟩ := h
    have nd := scAllLots.nd
    have hu := hu_of hr
    have hu8 : _ + 8 < cLine := Nat.lt_of_le_of_lt (Nat.add_le_add_left (by decide) _) (room64 hr)
    refine ⟨_, pss_cons (ps_set (i := 1) nd rfl (.inl rfl) (pe_lst (pa_cons (pe_tup pa_nil) pa_nil)))
      (pss_cons (ps_for PassesOwn.never rfl (pi_range1 (by rfl) T.range (pa_cons (pe_callB call_len_seq (by rfl) T.len PySem.boot_len (pa_cons (pv 0) pa_nil)) pa_nil)) (pg_name (i := 2) nd rfl (.inr rfl))
          (pss_one (ps_set (i := 1) nd rfl (.inl rfl) (pe_op op_cat (pv 1) (pe_lc (own := [("lot", 3)]) (g := gName 3) (tt := tYes) (te := tOp (rCatT2 K) (tVar 3) (tTup (tCons (tVar 2) tNil))) rfl nd (pi_list (pv 1)) (blkOk_by (N := nmAL) (sc := defScope sAllLots) (by decide +kernel))
              (fun _ _ _ _ _ => pg_name (i := 3) nd rfl (.inl rfl)) (fun _ _ _ _ _ => pts_nil) (fun _ _ _ _ _ => pe_op op_catT2 (pv 3) (pe_tup (pa_cons (pv 2) pa_nil))))))))
      (pss_cons (ps_set (i := 4) nd rfl (.inl rfl) (pe_callB (cr_sortedLen (tup := true) hu8) (by rfl) Cc.sorted boot_sorted (pa_cons (pe_lc (own := [("lot", 3)]) (g := gName 3) (tt := tYes) (te := tTup (tCons (tCB (rLenS K) (tCons (tVar 3) tNil)) (tCons (tVar 3) tNil))) rfl nd (pi_list (pv 1))
          (blkOk_by (N := nmAL) (sc := defScope sAllLots) (by decide +kernel)) (fun _ _ _ _ _ => pg_name (i := 3) nd rfl (.inl rfl)) (fun _ _ _ _ _ => pts_nil)
          (fun _ _ _ _ _ => pe_tup (pa_cons (pe_callB call_len_seq (by rfl) T.len PySem.boot_len (pa_cons (pv 3) pa_nil)) (pa_cons (pv 3) pa_nil)))) pa_nil)))
      (pss_one (ps_ret (pe_lc (own := [("size", 5), ("lot", 3)]) (g := gTup K 2 (gCons (gName 5) (gCons (gName 3) gNil))) (tt := tYes) (te := tPlacesL K) rfl nd (pi_list (pv 4))
          (blkOk_by (N := nmAL) (sc := defScope sAllLots) (by decide +kernel)) (fun _ _ _ _ _ => pg_tup rfl (pgs_cons (pg_name (i := 5) nd rfl (.inl rfl)) (pgs_cons (pg_name (i := 3) nd rfl (.inl rfl)) pgs_nil))) (fun _ _ _ _ _ => pts_nil)
          (fun _ _ _ _ _ => pe_tupleOf (by rfl) Cc.tuple (pe_lc (own := [("place", 2)]) (g := gName 2) (tt := tYes) (te := tOp (rIxT K) (tVar 0) (tVar 2)) rfl nd (pi_tup (pv 3))
            (blkOk_by (N := nmAL) (sc := relS (retLScope sAllLots 3) (defScope sAllLots)) (by decide +kernel)) (fun _ _ _ _ _ => pg_name (i := 2) nd rfl (.inl rfl)) (fun _ _ _ _ _ => pts_nil)
            (fun _ _ _ _ _ => pe_ix ix_tup (pv 0) (pv 2) (fun _ _ => rfl))))))))), ?_⟩
    refine ⟨few_ok rfl, fun e0 ne0 => ⟨few_ok rfl, fun l0 nl0 => ?_⟩⟩
    have s1 : Same H (upd H e0 (.tup [])) := same_new ne0
    have s2 := same_new (o := HO.lst [.ref e0]) nl0
    have ee0 := s2 _ _ (upd_same (H := H) (a := e0) (o := HO.tup []))
    have el0 := upd_same (H := upd H e0 (.tup [])) (a := l0) (o := HO.lst [.ref e0])
    have s12 := s1.trans s2
    generalize upd (upd H e0 (.tup [])) l0 (.lst [.ref e0]) = H2 at s12 ee0 el0 ⊢
    refine ⟨_, rfl, n, _, rfl, .inr (sqT_same s12 hn), ?_⟩
    rw [List.length_map]
    refine ⟨_, rfl, by omega, by omega, for_range (lo := 0) (n := zs.length) (fun i σ H' => ∃ (fl : Addr) (ts : List V) (u v x y : Option V), σ = [some (.ref n), some (.ref fl), u, v, x, y] ∧ H' fl = some (.lst ts) ∧ Paired (RelI H') ts (rowsN i) ∧ Same H2 H') ?_ ?_ ?_⟩
    · exact ⟨l0, [.ref e0], none, none, none, none, rfl, el0, .cons ⟨e0, rfl, ee0⟩ .nil, .refl _⟩
    · rintro i σ H' hi ⟨fl, ts, u, v, x, y, rfl, ef, pr, ss⟩
      have hi6 : i < 6 := by omega
      have r32 : (rowsN i).length ≤ 32 := by rw [rowsN_len]; exact Nat.le_trans (Nat.pow_le_pow_right (by decide) (show i ≤ 5 by omega)) (by decide)
      obtain ⟨ws, w1, w2, w3⟩ := paired_zip pr
      have wl : ws.length = (rowsN i).length := by rw [← w2, List.length_map]
      have tl : ts.length = (rowsN i).length := paired_len pr
      refine ⟨_, rfl, _, rfl, fl, rfl, ⟨_, SqL.of ef⟩, fun D nD => lc_relQ (walk_list (a := fl) (xs := ts)) nD ws (fun z => z.1) (fun z => z.2 ++ [i]) RelI (fun Ha Hb v b kp h => RelI.keepP kp v b h) w1.symm (by omega) (fun H s => s.seq (SqL.of ef)) ?_ ?_⟩
      · rintro j ⟨zv0, ns⟩ H3 R hz s3 kR
        obtain ⟨t, et, eh⟩ := w3 _ (List.mem_of_getElem? hz)
        dsimp only at et eh
        subst et
        have nm : ns ∈ rowsN i := by rw [← w2]; exact List.mem_map.mpr ⟨_, List.mem_of_getElem? hz, rfl⟩
        have nl : ns.length ≤ 6 := by
          rw [rowsN_eq] at nm
          obtain ⟨c, _, rfl⟩ := List.mem_map.mp nm
          exact Nat.le_trans (rowC_len _ _) (by omega)
        refine ⟨rfl, _, rfl, _, rfl, few_ok rfl, fun q nq => ?_⟩
        have s4 : Same H3 (upd H3 q (.tup [.int (0 + (i : Nat))])) := same_new nq
        have eq := upd_same (H := H3) (a := q) (o := HO.tup [.int (0 + (i : Nat))])
        have em : ((ns ++ [i]).map fun p : Nat => (p : Int)).map V.int = (ns.map fun p : Nat => (p : Int)).map V.int ++ [.int (0 + (i : Nat))] := by
          rw [List.map_append, List.map_append, Int.zero_add]
          rfl
        refine ⟨t, q, _, _, rfl, rfl, SqT.of (s4 _ _ (s3 _ _ eh)), SqT.of eq, by simp, by rw [List.length_map, List.length_map, sizeLine_eq]; show ns.length + 1 ≤ _; omega, fun e => ?_, fun _ p np => ?_⟩
        · refine kR _ _ s4 ⟨q, rfl, ?_⟩
          rw [em, e]
          exact eq
        · refine kR _ _ (s4.trans (same_new np)) ⟨p, rfl, ?_⟩
          rw [em]
          exact upd_same
      · intro H3 ts3 s3 eD pD
        have pE : Paired (RelI H3) ts3 ((rowsN i).map (· ++ [i])) := by
          rw [← w2, List.map_map]
          exact pD
        have tl3 : ts3.length = (rowsN i).length := by rw [paired_len pE, List.length_map]
        refine ⟨fl, D, _, _, rfl, rfl, s3 _ _ ef, eD, by rw [sizeLine_eq]; omega, fun p np => ?_⟩
        have s4 : Same H3 (upd H3 p (.lst (ts ++ ts3))) := same_new np
        refine ⟨p, ts ++ ts3, _, _, _, _, rfl, upd_same, ?_, (ss.trans s3).trans s4⟩
        exact paired_append (Paired.mapP pr fun v r h => RelI.keepP (.of (s3.trans s4)) v r h) (Paired.mapP pE fun v r h => RelI.keepP (.of s4) v r h)
    · rintro σ H' ⟨fl, ts, u, v, x, y, rfl, ef, pr, ss⟩
      have N64 : (rowsN zs.length).length ≤ 64 := by rw [rowsN_len]; exact Nat.pow_le_pow_right (by decide) z6
      obtain ⟨ws, w1, w2, w3⟩ := paired_zip pr
      have wl : ws.length = (rowsN zs.length).length := by rw [← w2, List.length_map]
      refine ⟨_, rfl, fl, rfl, ⟨_, SqL.of ef⟩, fun E1 nE => lc_relQ (walk_list (a := fl) (xs := ts)) nE ws (fun z => z.1) (fun z => z.2) RelPT (fun Ha Hb v b kp h => RelPT.keepP kp v b h) w1.symm (by omega) (fun H s => s.seq (SqL.of ef)) ?_ ?_⟩
      · rintro j ⟨zv0, ns⟩ H3 R hz s3 kR
        obtain ⟨t, et, eh⟩ := w3 _ (List.mem_of_getElem? hz)
        dsimp only at et eh
        subst et
        have eh4 := s3 _ _ eh
        refine ⟨rfl, _, rfl, t, _, rfl, .inr (SqT.of eh4), _, rfl, few_ok rfl, fun q nq => ?_⟩
        rw [List.length_map, List.length_map]
        exact kR _ (.ref q) (same_new nq) ⟨q, t, rfl, upd_same, same_new nq _ _ eh4⟩
      · intro H5 ts2 s5 eE pr2
        rw [w2] at pr2
        classical
        obtain ⟨kN, hkN⟩ : ∃ kN : V → List Nat, kN = fun x => if h : ∃ q : List Nat, RelPT H5 x q then h.choose else [] := ⟨_, rfl⟩
        have kR : ∀ {x : V} {ns : List Nat}, RelPT H5 x ns → kN x = ns := fun {x ns} r => by
          have ex : ∃ q : List Nat, RelPT H5 x q := ⟨_, r⟩
          rw [hkN]
          show (if h : _ then _ else _) = _
          rw [dif_pos ex]
          exact RelPT.inj ex.choose_spec r
        have kmap : ts2.map kN = rowsN zs.length := by
          have := paired_map_eq2 (f := kN) (g := fun ns : List Nat => ns) (fun x ns r => kR r) pr2
          rw [this, List.map_id'']
          exact fun _ => rfl
        have relK : ∀ x ∈ ts2, RelPT H5 x (kN x) := fun x hx => by
          obtain ⟨ns, _, r⟩ := paired_mem2 pr2 x hx
          rw [kR r]
          exact r
        refine ⟨E1, ts2, fun x => (kN x).map fun p : Nat => (p : Int), rfl, SqL.of eE, fun x hx => ?_, fun os p srt perm np => ?_⟩
        · obtain ⟨t, b, e1, e2, e3⟩ := relK x hx
          exact ⟨t, b, e1, by rw [List.length_map]; exact e2, by rw [if_pos rfl]; exact SqT.of e3⟩
        have s6 : Same H5 (upd H5 p (.lst os)) := same_new np
        have ep6 : upd H5 p (.lst os) p = some (.lst os) := upd_same
        generalize upd H5 p (.lst os) = H6 at s6 ep6
        have relO : ∀ x ∈ os, RelPT H6 x (kN x) := fun x hx => RelPT.keepP (.of s6) _ _ (relK x (perm.mem_iff.mp hx))
        have ordP : (os.map kN).Perm (rowsN zs.length) := by
          rw [← kmap]
          exact perm.map kN
        have osl : os.length = (rowsN zs.length).length := by
          have := ordP.length_eq
          rw [List.length_map] at this
          exact this
        have sA : Same H H6 := ((s12.trans ss).trans s5).trans s6
        refine ⟨_, rfl, p, rfl, ⟨_, SqL.of ep6⟩, fun G nG => lc_relQ (walk_list (a := p) (xs := os)) nG os id (fun y => namesAt zs (kN y)) RelT (fun Ha Hb v b kp r => ?_) (by rw [List.map_id]) (by omega) (fun H s => s.seq (SqL.of ep6)) ?_ ?_⟩
        · obtain ⟨t, e1, e2⟩ := r
          exact ⟨t, e1, kp _ _ e2 fun _ z => by cases z⟩
        · intro i y H7 R hy s7 kR2
          obtain ⟨t, b, e1, e2, e3⟩ := relO y (List.mem_of_getElem? hy)
          have mem : ∃ c, kN y = rowC zs.length c := by
            have m := ordP.mem_iff.mp (List.mem_map.mpr ⟨y, List.mem_of_getElem? hy, rfl⟩)
            rw [rowsN_eq] at m
            obtain ⟨c, _, e⟩ := List.mem_map.mp m
            exact ⟨c, e.symm⟩
          have small : ∀ q ∈ kN y, q < zs.length := fun q hq => by
            obtain ⟨c, e⟩ := mem
            rw [e] at hq
            exact rowC_lt hq
          have kl : (kN y).length ≤ 6 := by
            obtain ⟨c, e⟩ := mem
            rw [e]
            exact Nat.le_trans (rowC_len _ _) z6
          have e3' := s7 _ _ e3
          refine ⟨t, _, e1, SqT.of (s7 _ _ e2), rfl, _, _, rfl, _, _, rfl, rfl, rfl, _, rfl, b, rfl, ⟨_, SqT.of e3'⟩, fun E2 nE2 => ?_⟩
          refine lc_fm (walk_tup (a := b) (xs := ((kN y).map fun p : Nat => (p : Int)).map V.int)) ((kN y).map fun p : Nat => (p : Int)) (fun p => some (V.str (zs.getD p.toNat Str.empty))) (by simp only [List.length_map]) (by simp only [List.length_map]; omega) nE2 (fun H s => sqT_same s (SqT.of e3')) ?_ ?_
          · rintro j u q H8 H8' R2 Rn2 hq s8 ⟨rfl, hu⟩ g1 g2
            obtain rfl : V.int q = u := by
              rw [List.getElem?_map, hq] at hu
              exact Option.some.inj hu
            obtain ⟨m, hm, rfl⟩ := List.mem_map.mp (List.mem_of_getElem? hq)
            have ml := small m hm
            have sH8 := (sA.trans s7).trans s8
            refine ⟨rfl, _, rfl, _, rfl, n, zs.map V.str, (m : Int), _, rfl, rfl, sqT_same sH8 hn, atN (i := m) (v := V.str (zs.getD m Str.empty)) ?_, g1 _ _ (by rw [Int.toNat_natCast]) (Same.refl _)⟩
            rw [List.getElem?_map, List.getD_eq_getElem?_getD, List.getElem?_eq_getElem ml]
            rfl
          · intro H8 s8 e8
            rw [fm_at] at e8
            exact .inl ⟨E2, _, rfl, SqL.of e8, fun T nT => kR2 _ _ (s8.trans (same_new nT)) ⟨T, rfl, upd_same⟩⟩
        · intro H9 ts9 s9 eG pr9
          have s09 := sA.trans s9
          refine k G ts9 (os.map fun y => namesAt zs (kN y)) _ s09 (sA.free nG) eG (Paired.mapP pr9 fun v b ⟨t, e1, e2⟩ => ⟨t, e1, e2⟩) ⟨os.map kN, by rw [List.map_map]; rfl, ?_, SrtO.srtd_map srt⟩
          rw [← rowsN_eq]
          exact ordP
end
end K6
set_option Elab.async false
set_option linter.all false
set_option maxRecDepth 100000
set_option maxHeartbeats 4000000
set_option pp.maxSteps 1200
set_option pp.deepTerms false
namespace K6
open PySem PySem.Spec PyProof.Rows L2 Lk
section
variable {P : Program} {w : World} {K : PySem.W.Frag} {mg : Str → Option Value} {base : Heap} {f : Addr} {fd : FuncData}
abbrev sInside : Stmt := top 47
abbrev sLeastL : Stmt := top 49
theorem fm_rowsE (q : List Str → Bool) : ∀ zs : List (V × List Str), (zs.filterMap fun z => if q z.2 = true then some z.1 else none) = (zs.filter fun z => q z.2).map (·.1)
  | [] => rfl
  | z :: zs => by
    have ih := fm_rowsE q zs
    rw [List.filterMap_cons]
    by_cases h : q z.2 = true
    · rw [if_pos h, List.filter_cons_of_pos (p := fun z : V × List Str => q z.2) h, List.map_cons, ih]
    · rw [if_neg h, List.filter_cons_of_neg (p := fun z : V × List Str => q z.2) h, ih]
theorem paired_ofE {α β : Type} {R : α → β → Prop} : ∀ {zs : List (α × β)}, (∀ z ∈ zs, R z.1 z.2) → Paired R (zs.map (·.1)) (zs.map (·.2))
  | [], _ => .nil
  | z :: zs, h => .cons (h z List.mem_cons_self) (paired_ofE fun y hy => h y (List.mem_cons_of_mem _ hy))
def spInside (K : PySem.W.Frag) : Sp := fun vs H Q _ => ∃ (p q : Addr) (ys zs : List Str), vs = [.ref p, .ref q] ∧ SqT K H p (ys.map V.str) ∧ SqT K H q (zs.map V.str) ∧ ys.length ≤ 1000 ∧ ∀ H', Same H H' → Q (.bl (ys.all fun y => decide (y ∈ zs))) H'
theorem scInside : FnScope ["one", "other", "name"] ["one", "other"] (defScope sInside) := ⟨rfl, rfl, rfl, by decide +kernel, rfl, by decide +kernel, by decide +kernel⟩
theorem ok_inside (F : Fun K "_law_is_inside" "_law_is_inside" sInside f fd) (T : Bl mg) : FnOk P w K mg base CX0 1 f fd ["one", "other"] (spInside K) := by
  refine F.ok scInside (fun vs H Q E h => ?_) (fun cdv A outer s H vs Q E hr h => ?_)
  · obtain ⟨p, q, ys, zs, rfl, _⟩ := h
    rfl
  · obtain ⟨p, q, ys, zs, rfl, hp, hq, few, k⟩ := h
    have nd := scInside.nd
    refine ⟨_, pss_one (ps_ret (pe_callB (cr_all rfl) (by rfl) T.all boot_all (pa_cons (pe_lc (own := [("name", 2)]) (g := gName 2) (tt := tYes) (te := tOp (rIn K false) (tVar 2) (tVar 1)) rfl nd (pi_tup (pv 0)) (blkOk_by (N := ["one", "other", "name"]) (sc := defScope sInside) (by decide +kernel))
        (fun _ _ _ _ _ => pg_name (i := 2) nd rfl (.inl rfl)) (fun _ _ _ _ _ => pts_nil) (fun _ _ _ _ _ => pe_cmpR op_in_seq (pv 2) (pv 1) rfl)) pa_nil))), ?_⟩
    refine ⟨_, rfl, p, rfl, ⟨_, hp⟩, fun D nD => lc_fm (walk_tup (a := p) (xs := ys.map V.str)) ys (fun y => some (V.bl (decide (y ∈ zs)))) (by rw [List.length_map]) (by rw [List.length_map]; omega) nD (fun H s => sqT_same s hp) ?_ ?_⟩
    · rintro i u y H2 H2' R Rn hy s2 ⟨rfl, hu⟩ k1 k2
      obtain rfl : V.str y = u := by
        rw [List.getElem?_map, hy] at hu
        exact Option.some.inj hu
      refine ⟨rfl, _, rfl, _, rfl, q, _, rfl, .inr (sqT_same s2 hq), rfl, flat_strs _, ?_⟩
      rw [inV_str]
      exact k1 _ _ rfl (Same.refl _)
    · intro H2 s2 eD
      rw [fm_some] at eD
      have e : (ys.map fun y => V.bl (decide (y ∈ zs))) = (ys.map fun y => decide (y ∈ zs)).map V.bl := by rw [List.map_map]; rfl
      rw [e] at eD
      refine ⟨D, _, rfl, SqL.of eD, ?_⟩
      have e2 : ((ys.map fun y => decide (y ∈ zs)).all id) = ys.all fun y => decide (y ∈ zs) := by rw [List.all_map]; rfl
      rw [e2]
      exact k _ s2
def spLeastL (K : PySem.W.Frag) : Sp := fun vs H Q _ => ∃ (n l : Addr) (zs : List Str) (ts : List V) (sel : List (List Str)), vs = [.ref n, .ref l] ∧ SqT K H n (zs.map V.str) ∧ NmOk zs ∧ H l = some (.lst ts) ∧ Paired (RelT H) ts sel ∧ (∀ r ∈ sel, r.Sublist zs) ∧ sel.length ≤ 64 ∧
  ∀ q us rws H', Same H H' → H' q = some (.tup us) → Paired (RelT H') us (leastF (fun r => decide (r ∈ sel)) rws) → LotsOk zs rws → Q (.ref q) H'
abbrev nmLL : List Str := ["names", "some", "found", "lot", "other"]
theorem scLeastL : FnScope nmLL ["names", "some"] (defScope sLeastL) := ⟨rfl, rfl, rfl, by decide +kernel, rfl, by decide +kernel, by decide +kernel⟩
theorem ok_leastL {f1 f2 : Addr} {fd1 fd2 : FuncData} (F : Fun K "_law_least_lots" "_law_least_lots" sLeastL f fd) (T : Bl mg) (Cc : Cn mg)
    (G1 : FnOk P w K mg base CX0 1 f1 fd1 ["names"] (spAllLots K)) (a1 : At K mg "_law_all_lots" f1 fd1 ["names"])
    (G2 : FnOk P w K mg base CX0 1 f2 fd2 ["one", "other"] (spInside K)) (a2 : At K mg "_law_is_inside" f2 fd2 ["one", "other"]) :
    FnOk P w K mg base CX0 2 f fd ["names", "some"] (spLeastL K) := by
  refine F.ok scLeastL (fun vs H Q E h => ?_) (fun cdv A outer s H vs Q E hr h => ?_)
  · obtain ⟨n, l, zs, ts, sel, rfl, _⟩ := h
    rfl
  · obtain ⟨n, l, zs, ts, sel, rfl, hn, nk, el, pr, hsub, s64, k⟩ := h
    have nd := scLeastL.nd
    have z6 := nk.k6
    refine ⟨_, pss_cons (ps_set (i := 2) nd rfl (.inl rfl) (pe_lst pa_nil))
      (pss_cons (ps_for PassesOwn.never rfl (pi_list (pe_lc (own := [("lot", 3)]) (g := gName 3) (tt := tTest (tOp (rInD K) (tVar 3) (tVar 1))) (te := tVar 3) rfl nd (pi_list (pe_call G1 hr (by rfl) a1.m a1.kp a1.b .nil pass0 (pa_cons (pv 0) pa_nil)))
              (blkOk_by (N := nmLL) (sc := defScope sLeastL) (by decide +kernel)) (fun _ _ _ _ _ => pg_name (i := 3) nd rfl (.inl rfl)) (fun _ _ _ _ _ => pts_one (pt_cmpR (op_inD (room65 hr)) (pv 3) (pv 1) rfl)) (fun _ _ _ _ _ => pv 3))) (pg_name (i := 3) nd rfl (.inr rfl))
          (pss_one (ps_if (pt_not (pt_val (pe_callB (cr_any rfl) (by rfl) T.any boot_any (pa_cons (pe_lc (own := [("other", 4)]) (g := gName 4) (tt := tYes) (te := tCall (spInside K) [] E0 (tCons (tVar 4) (tCons (tVar 3) tNil))) rfl nd (pi_list (pv 2))
              (blkOk_by (N := nmLL) (sc := defScope sLeastL) (by decide +kernel)) (fun _ _ _ _ _ => pg_name (i := 4) nd rfl (.inl rfl)) (fun _ _ _ _ _ => pts_nil) (fun _ _ _ _ _ => pe_call G2 hr (by rfl) a2.m a2.kp a2.b .nil pass0 (pa_cons (pv 4) (pa_cons (pv 3) pa_nil)))) pa_nil))))
            (pss_one (ps_expr (pe_bm PySem.F.plainAttrs_list PySem.F.slot_list_append PySem.F.type_list_append mt_append (pv 2) (pa_cons (pv 3) pa_nil)))) pss_nil)))
      (pss_one (ps_ret (pe_tupleOf (by rfl) Cc.tuple (pv 2))))), ?_⟩
    refine ⟨few_ok rfl, fun D nD => ?_⟩
    have s1 : Same H (upd H D (.lst [])) := same_new nD
    have eD0 := upd_same (H := H) (a := D) (o := HO.lst [])
    generalize upd H D (.lst []) = H1 at s1 eD0 ⊢
    refine ⟨_, rfl, n, zs, rfl, sqT_same s1 hn, z6, fun E us rws H2 s2 nE eE pu lo => ?_⟩
    have r64 := lots_64 lo z6
    have s12 := s1.trans s2
    have rsub : ∀ x ∈ rws, x.Sublist zs := fun x hx => lots_sub lo hx
    obtain ⟨ws, w1, w2, w3⟩ := paired_zip pu
    have wl : ws.length = rws.length := by rw [← w2, List.length_map]
    have pr2 := rows_keep pr (.of s12)
    have el2 := s12 _ _ el
    have eD2 := s2 _ _ eD0
    refine ⟨E, rfl, ⟨_, SqL.of eE⟩, fun G nG => lc_fm (walk_list (a := E) (xs := us)) ws (fun z => if decide (z.2 ∈ sel) = true then some z.1 else none) (by rw [← w1, List.length_map]) (by rw [← w1, List.length_map]; omega) nG (fun H s => s.seq (SqL.of eE)) ?_ ?_⟩
    · rintro i u ⟨zv0, row⟩ H7 H7' R Rn hz s7 ⟨rfl, hu2⟩ k1 k2
      obtain ⟨t, et, eh⟩ := w3 _ (List.mem_of_getElem? hz)
      dsimp only at et eh
      subst et
      obtain rfl : V.ref t = u := by
        rw [← w1, List.getElem?_map, hz] at hu2
        exact Option.some.inj hu2
      have rm : row ∈ rws := by rw [← w2]; exact List.mem_map.mpr ⟨_, List.mem_of_getElem? hz, rfl⟩
      have nr := nice_lot nk (rsub row rm)
      refine ⟨rfl, _, rfl, _, rfl, .tuple (strsD row), sel.map fun z => .tuple (strsD z), .tup (SqT.of (s7 _ _ eh)) (dp_strs _), .lst (SqL.of (s7 _ _ el2)) (dp_rows (rows_keep pr2 (.of s7))), nr.shaped (by decide), ?_, _, rfl, ?_⟩
      · exact (Nice.lst (c := 6 * (8 + 1)) (k := 1) (m := 64) (fun d hd => by
          obtain ⟨z, hz, rfl⟩ := List.mem_map.mp hd
          exact nice_lot nk (hsub z hz)) (by rw [List.length_map]; exact s64)).shaped (by decide)
      rw [in_rows]
      cases hb : decide (row ∈ sel) with
      | true => exact iteT ⟨_, rfl, k1 _ _ (if_pos hb) (Same.refl _)⟩
      | false => exact iteB rfl (k2 _ (if_neg (by rw [hb]; decide)) (Same.refl _))
    intro H3 s3 eG
    rw [fm_rowsE (fun r => decide (r ∈ sel))] at eG
    have pG : Paired (RelT H3) ((ws.filter fun z => decide (z.2 ∈ sel)).map (·.1)) (rws.filter fun r => decide (r ∈ sel)) := by
      have e : rws.filter (fun r => decide (r ∈ sel)) = (ws.filter fun z => decide (z.2 ∈ sel)).map (·.2) := by
        rw [← w2, List.filter_map]
        rfl
      rw [e]
      exact paired_ofE fun z hz => RelT.keepP (.of s3) _ _ (w3 z (List.mem_filter.mp hz).1)
    generalize (ws.filter fun z => decide (z.2 ∈ sel)).map (·.1) = gs at eG pG
    obtain ⟨rs, hrs⟩ : ∃ rs, rs = rws.filter fun r => decide (r ∈ sel) := ⟨_, rfl⟩
    rw [← hrs] at pG
    have rs64 : rs.length ≤ 64 := by rw [hrs]; exact Nat.le_trans (List.length_filter_le _ _) r64
    have rssub : ∀ x ∈ rs, x.Sublist zs := fun x hx => rsub x (by rw [hrs] at hx; exact (List.mem_filter.mp hx).1)
    have eD3 := s3 _ _ eD2
    have GD : G ≠ D := fun z => by rw [z, eD2] at nG; cases nG
    have s13 := s12.trans s3
    have gl : gs.length = rs.length := paired_len pG
    have far : ∀ {H4 : Hp}, KeepB D H3 H4 → Same H H4 := fun kb b o q => kb _ _ (ne_of_none q nD) (s13 _ _ q)
    clear eE pu w1 w2 w3 wl pr2 el2 nE nG s2 s3 s1 s12 eD0 eD2
    refine ⟨G, rfl, ⟨_, SqL.of eG⟩, for_list (xs := gs) (fun i σ H4 => ∃ (u v : Option V) (ks : List V), σ = [some (.ref n), some (.ref l), some (.ref D), u, v] ∧ H4 D = some (.lst ks) ∧ Paired (RelT H4) ks ((rs.take i).foldl (stepF fun _ => true) []) ∧
      (∀ x ∈ (rs.take i).foldl (stepF fun _ => true) [], x.Sublist zs) ∧ ((rs.take i).foldl (stepF fun _ => true) []).length ≤ i ∧ KeepB D H3 H4) ?_ ?_ ?_ ?_⟩
    · exact ⟨none, none, [], rfl, eD3, .nil, (fun _ h => by cases h), Nat.le_refl _, fun _ _ _ q => q⟩
    · rintro i σ H4 _ ⟨_, _, _, _, _, _, _, _, kb⟩
      exact SqL.of (kb _ _ GD eG)
    · rintro i y σ H4 hy ⟨u, v, ks, rfl, eD, pk, ksub, kl, kb⟩
      obtain ⟨row, hrow⟩ : ∃ row, rs[i]? = some row := ⟨_, List.getElem?_eq_getElem (by rw [← gl]; exact (List.getElem?_eq_some_iff.mp hy).1)⟩
      obtain ⟨v2, hv2, p, rfl, ep⟩ := paired_get pG hrow
      obtain rfl : V.ref p = y := Option.some.inj (hv2.symm.trans hy)
      have i64 : i < 64 := by have := (List.getElem?_eq_some_iff.mp hrow).1; omega
      have pD : p ≠ D := fun z => by rw [z, eD3] at ep; cases ep
      have ep4 := kb _ _ pD ep
      have rs' := rssub row (List.mem_of_getElem? hrow)
      obtain ⟨kept, hkept⟩ : ∃ kept, kept = (rs.take i).foldl (stepF fun _ => true) [] := ⟨_, rfl⟩
      have tk : (rs.take (i + 1)).foldl (stepF fun _ => true) [] = stepF (fun _ => true) kept row := by
        rw [List.take_add_one, hrow, Option.toList_some, List.foldl_append, hkept]
        rfl
      rw [← hkept] at pk ksub kl
      obtain ⟨xs, x1, x2, x3⟩ := paired_zip pk
      have xl : xs.length = kept.length := by rw [← x2, List.length_map]
      refine ⟨_, rfl, D, rfl, ⟨_, SqL.of eD⟩, fun B nB => lc_fm (walk_list (a := D) (xs := ks)) xs (fun z => some (V.bl (z.2.all fun y => decide (y ∈ row)))) (by rw [← x1, List.length_map]) (by rw [← x1, List.length_map]; omega) nB (fun H s => s.seq (SqL.of eD)) ?_ ?_⟩
      · rintro j u ⟨zv0, r0⟩ H7 H7' R Rn hz s7 ⟨rfl, hu2⟩ k1 k2
        obtain ⟨t, et, eh⟩ := x3 _ (List.mem_of_getElem? hz)
        dsimp only at et eh
        subst et
        obtain rfl : V.ref t = u := by
          rw [← x1, List.getElem?_map, hz] at hu2
          exact Option.some.inj hu2
        have rm : r0 ∈ kept := by rw [← x2]; exact List.mem_map.mpr ⟨_, List.mem_of_getElem? hz, rfl⟩
        have := (ksub r0 rm).length_le
        exact ⟨rfl, _, rfl, _, rfl, t, p, r0, row, rfl, SqT.of (s7 _ _ eh), SqT.of (s7 _ _ ep4), by omega, fun H8 s8 => k1 _ _ rfl s8⟩
      intro H5 s5 eB
      rw [fm_some] at eB
      obtain ⟨bs, hbs⟩ : ∃ bs : List Bool, bs = xs.map fun z => z.2.all fun y => decide (y ∈ row) := ⟨_, rfl⟩
      have eb : (xs.map fun z => V.bl (z.2.all fun y => decide (y ∈ row))) = bs.map V.bl := by rw [hbs, List.map_map]; rfl
      rw [eb] at eB
      have hany : bs.any id = hasB kept row := by
        rw [hbs, List.any_map, ← x2]
        unfold hasB
        rw [List.any_map]
        rfl
      refine ⟨B, bs, rfl, SqL.of eB, _, rfl, ?_⟩
      rw [hany]
      have eD5 := s5 _ _ eD
      have kb5 : KeepB D H3 H5 := fun b o nb q => s5 _ _ (kb b o nb q)
      have pk5 := rows_keep pk (.of s5)
      have st : stepF (fun _ => true) kept row = if (!hasB kept row) = true then kept ++ [row] else kept := by
        unfold stepF hasB
        rw [Bool.true_and]
      cases hb : hasB kept row with
      | true =>
        refine iteB rfl ⟨_, _, ks, rfl, eD5, ?_, ?_, ?_, kb5⟩
        · rw [tk, st, hb]; exact pk5
        · rw [tk, st, hb]; exact ksub
        · rw [tk, st, hb]
          show kept.length ≤ _
          omega
      | false =>
        refine iteT ?_
        have ksl : ks.length = kept.length := paired_len pk
        refine ⟨_, rfl, .inl ⟨rfl, _, SqL.of eD5⟩, _, rfl, D, _, _, rfl, rfl, eD5, by rw [sizeLine_eq]; omega, ?_⟩
        have kp : Keep H5 (upd H5 D (.lst (ks ++ [.ref p]))) := .upd eD5
        refine ⟨_, _, ks ++ [.ref p], rfl, upd_same, ?_, ?_, ?_, fun b o nb q => by rw [upd_ne nb]; exact kb5 b o nb q⟩
        · rw [tk, st, hb]
          exact Paired.add (rows_keep pk5 kp) ⟨p, rfl, kp _ _ (s5 _ _ ep4) fun _ z => by cases z⟩
        · rw [tk, st, hb]
          intro x hx
          rcases List.mem_append.mp hx with hx | hx
          · exact ksub x hx
          · rw [List.mem_singleton.mp hx]; exact rs'
        · rw [tk, st, hb]
          show (kept ++ [row]).length ≤ _
          rw [List.length_append]
          show kept.length + 1 ≤ _
          omega
    · rintro σ H4 ⟨u, v, ks, rfl, eD, pk, ksub, kl, kb⟩
      rw [gl, List.take_length] at pk
      have e : rs.foldl (stepF fun _ => true) [] = leastF (fun r => decide (r ∈ sel)) rws := by
        rw [hrs]
        exact leastF_filter _ _
      rw [e] at pk
      refine ⟨_, rfl, .inl ⟨D, _, rfl, SqL.of eD, fun q nq => ?_⟩⟩
      have s4 := same_new (o := HO.tup ks) nq
      exact k q ks rws _ ((far kb).trans s4) upd_same (rows_keep pk (.of s4)) lo
end
end K6
set_option Elab.async false
set_option linter.all false
set_option maxRecDepth 100000
set_option maxHeartbeats 1500000
set_option pp.maxSteps 1200
set_option pp.deepTerms false
namespace K6
open PySem PySem.Spec PyProof.Rows L2 Lk
/-! ### the least lots, pure -/
/-- each name of r is in y -/
def inB (r y : List Str) : Bool := r.all fun z => decide (z ∈ y)
theorem inB_iff {r y : List Str} : inB r y = true ↔ ∀ z ∈ r, z ∈ y := by
  unfold inB
  rw [List.all_eq_true]
  exact ⟨fun h z hz => of_decide_eq_true (h z hz), fun h z hz => decide_eq_true (h z hz)⟩
theorem inB_refl (r : List Str) : inB r r = true := inB_iff.mpr fun _ h => h
theorem inB_trans {a b c : List Str} (h : inB a b = true) (g : inB b c = true) : inB a c = true := inB_iff.mpr fun z hz => inB_iff.mp g z (inB_iff.mp h z hz)
theorem hasB_iff {rows : List (List Str)} {y : List Str} : hasB rows y = true ↔ ∃ r ∈ rows, inB r y = true := by
  unfold hasB
  rw [List.any_eq_true]
  rfl
theorem hasB_mono {rows : List (List Str)} {y x : List Str} (h : hasB rows y = true) (g : inB y x = true) : hasB rows x = true := by
  obtain ⟨r, hr, e⟩ := hasB_iff.mp h
  exact hasB_iff.mpr ⟨r, hr, inB_trans e g⟩
/-- some lot of rws that p takes lies within y -/
def upP (p : List Str → Bool) (rws : List (List Str)) (y : List Str) : Prop := ∃ s ∈ rws, p s = true ∧ inB s y = true
theorem has_fold (p : List Str → Bool) (y : List Str) : ∀ (rws kept : List (List Str)), hasB (rws.foldl (stepF p) kept) y = true ↔ hasB kept y = true ∨ upP p rws y
  | [], kept => ⟨.inl, fun h => h.elim id fun ⟨_, h, _⟩ => by cases h⟩
  | x :: rws, kept => by
    rw [List.foldl_cons, has_fold p y rws]
    have st : hasB (stepF p kept x) y = true ↔ hasB kept y = true ∨ (p x = true ∧ inB x y = true) := by
      unfold stepF
      by_cases px : p x = true
      · by_cases hb : (kept.any fun r => r.all fun z => decide (z ∈ x)) = true
        · rw [if_neg (by rw [px, hb]; decide)]
          refine ⟨.inl, fun h => h.elim id fun ⟨_, h⟩ => hasB_mono (x := y) (y := x) hb h⟩
        · have hb' : (kept.any fun r => r.all fun z => decide (z ∈ x)) = false := Bool.eq_false_iff.mpr hb
          rw [if_pos (by rw [px, hb']; rfl)]
          constructor
          · intro h
            obtain ⟨r, hr, e⟩ := hasB_iff.mp h
            rcases List.mem_append.mp hr with hr | hr
            · exact .inl (hasB_iff.mpr ⟨r, hr, e⟩)
            · rw [List.mem_singleton.mp hr] at e
              exact .inr ⟨px, e⟩
          · rintro (h | ⟨_, h⟩)
            · obtain ⟨r, hr, e⟩ := hasB_iff.mp h
              exact hasB_iff.mpr ⟨r, List.mem_append_left _ hr, e⟩
            · exact hasB_iff.mpr ⟨x, List.mem_append_right _ (List.mem_singleton.mpr rfl), h⟩
      · rw [if_neg (by simp [px])]
        exact ⟨.inl, fun h => h.elim id fun ⟨h, _⟩ => absurd h px⟩
    rw [st]
    constructor
    · rintro ((h | h) | ⟨s, hs, h⟩)
      · exact .inl h
      · exact .inr ⟨x, List.mem_cons_self, h⟩
      · exact .inr ⟨s, List.mem_cons_of_mem _ hs, h⟩
    · rintro (h | ⟨s, hs, h⟩)
      · exact .inl (.inl h)
      · rcases List.mem_cons.mp hs with rfl | hs
        · exact .inl (.inr h)
        · exact .inr ⟨s, hs, h⟩
theorem has_least (p : List Str → Bool) (rws : List (List Str)) (y : List Str) : hasB (leastF p rws) y = true ↔ upP p rws y := by
  unfold leastF
  rw [has_fold]
  exact ⟨fun h => h.elim (fun h => by cases h) id, .inr⟩
/-- no later lot lies within an earlier one -/
def OrdB (rws : List (List Str)) : Prop := rws.Pairwise fun a b => inB b a = false
theorem fold_ext {p q : List Str → Bool} (all : List (List Str)) (ord : OrdB all) (up : ∀ r ∈ all, upP p all r ↔ upP q all r) : ∀ (m l : List (List Str)), all = l ++ m → l.foldl (stepF p) [] = l.foldl (stepF q) [] → m.foldl (stepF p) (l.foldl (stepF p) []) = m.foldl (stepF q) (l.foldl (stepF q) [])
  | [], _, _, h => h
  | x :: m, l, e, h => by
    have hx : x ∈ all := by rw [e]; exact List.mem_append_right _ List.mem_cons_self
    have e' : all = (l ++ [x]) ++ m := by rw [e, List.append_assoc]; rfl
    -- what lies within a lot of l ++ [x] stands there
    have back : ∀ (l1 l2 : List (List Str)), all = l1 ++ l2 → ∀ r ∈ l1, ∀ s ∈ all, inB s r = true → s ∈ l1 := fun l1 l2 e1 r hr s hs h => by
      rw [e1] at hs
      rcases List.mem_append.mp hs with hs | hs
      · exact hs
      · have o := ord
        unfold OrdB at o
        rw [e1, List.pairwise_append] at o
        rw [o.2.2 r hr s hs] at h
        cases h
    have xin : x ∈ l ++ [x] := List.mem_append_right _ (List.mem_singleton.mpr rfl)
    have nx : x ∉ l := fun h => by
      have o := ord
      unfold OrdB at o
      rw [e, List.pairwise_append] at o
      have := o.2.2 x h x List.mem_cons_self
      rw [inB_refl] at this
      cases this
    have go : ∀ {p q : List Str → Bool}, (∀ r ∈ all, upP p all r ↔ upP q all r) → p x = true → ¬ upP p l x → q x = true ∧ ¬ upP q l x := fun {p q} up px np => by
      have nq : ¬ upP q l x := fun ⟨s, hs, qs, sx⟩ => by
        have sa : s ∈ all := by rw [e]; exact List.mem_append_left _ hs
        obtain ⟨t, ht, pt, ts⟩ := (up s sa).mpr ⟨s, sa, qs, inB_refl s⟩
        exact np ⟨t, back l (x :: m) e s hs t ht ts, pt, inB_trans ts sx⟩
      refine ⟨?_, nq⟩
      obtain ⟨s, hs, qs, sx⟩ := (up x hx).mp ⟨x, hx, px, inB_refl x⟩
      rcases List.mem_append.mp (back _ m e' x xin s hs sx) with h | h
      · exact absurd ⟨s, h, qs, sx⟩ nq
      · rw [← List.mem_singleton.mp h]
        exact qs
    have same : stepF p (l.foldl (stepF p) []) x = stepF q (l.foldl (stepF p) []) x := by
      have hp := has_least p l x
      have hq := has_least q l x
      unfold leastF at hp hq
      rw [← h] at hq
      obtain ⟨kk, hkk⟩ : ∃ kk, kk = l.foldl (stepF p) [] := ⟨_, rfl⟩
      rw [← hkk] at hp hq ⊢
      have hb : (kk.any fun r => r.all fun z => decide (z ∈ x)) = hasB kk x := rfl
      unfold stepF
      rw [hb]
      cases hh : hasB kk x with
      | true => rw [Bool.not_true, Bool.and_false, Bool.and_false]
      | false =>
        have np : ¬ upP p l x := fun z => by rw [hp.mpr z] at hh; cases hh
        have nq : ¬ upP q l x := fun z => by rw [hq.mpr z] at hh; cases hh
        have : p x = q x := by
          cases h1 : p x with
          | true => exact (go up h1 np).1.symm
          | false =>
            cases h2 : q x with
            | true =>
              have := (go (fun r hr => (up r hr).symm) h2 nq).1
              rw [h1] at this
              cases this
            | false => rfl
        rw [this]
    have fx : (l ++ [x]).foldl (stepF p) [] = (l ++ [x]).foldl (stepF q) [] := by
      rw [List.foldl_append, List.foldl_append]
      show stepF p _ x = stepF q _ x
      rw [same, h]
    have := fold_ext all ord up m (l ++ [x]) e' fx
    rw [List.foldl_append, List.foldl_append] at this
    exact this
theorem least_ext {p q : List Str → Bool} {rws : List (List Str)} (ord : OrdB rws) (up : ∀ r ∈ rws, upP p rws r ↔ upP q rws r) : leastF p rws = leastF q rws := fold_ext rws ord up rws [] rfl rfl
theorem rowC_inj {n c d : Nat} (hc : c < 2 ^ n) (hd : d < 2 ^ n) (h : rowC n c = rowC n d) : c = d := by
  refine Nat.eq_of_testBit_eq fun i => ?_
  rcases Nat.lt_or_ge i n with hi | hi
  · rw [Nat.testBit_eq_decide_div_mod_eq, Nat.testBit_eq_decide_div_mod_eq]
    have : i ∈ rowC n c ↔ i ∈ rowC n d := by rw [h]
    unfold rowC at this
    rw [List.mem_filter, List.mem_filter, decide_eq_true_iff, decide_eq_true_iff] at this
    have m := List.mem_range.mpr hi
    exact decide_eq_decide.mpr ⟨fun q => (this.mp ⟨m, q⟩).2, fun q => (this.mpr ⟨m, q⟩).2⟩
  · have p := Nat.pow_le_pow_right (n := 2) (by decide) hi
    rw [Nat.testBit_lt_two_pow (Nat.lt_of_lt_of_le hc p), Nat.testBit_lt_two_pow (Nat.lt_of_lt_of_le hd p)]
theorem codes_nodup (n : Nat) : ((List.range (2 ^ n)).map (rowC n)).Nodup := by
  rw [List.nodup_iff_pairwise_ne, List.pairwise_map]
  have : (List.range (2 ^ n)).Pairwise (fun a b => a < 2 ^ n ∧ b < 2 ^ n ∧ a ≠ b) := by
    have h := List.nodup_iff_pairwise_ne.mp (List.nodup_range (n := 2 ^ n))
    refine List.Pairwise.imp_of_mem (fun {a b} ha hb hab => ?_) h
    exact ⟨List.mem_range.mp ha, List.mem_range.mp hb, hab⟩
  exact this.imp fun ⟨h1, h2, h3⟩ e => h3 (rowC_inj h1 h2 e)
theorem names_inj {zs : List Str} (nd : zs.Nodup) {c d : Nat} (h : namesAt zs (rowC zs.length c) = namesAt zs (rowC zs.length d)) : rowC zs.length c = rowC zs.length d := by
  unfold rowC
  refine List.filter_congr fun p hp => ?_
  have pl := List.mem_range.mp hp
  have key : ∀ c : Nat, zs[p] ∈ namesAt zs (rowC zs.length c) ↔ c / 2 ^ p % 2 = 1 := fun c => by
    unfold namesAt
    constructor
    · intro m
      obtain ⟨q, hq, e⟩ := List.mem_map.mp m
      have ql := rowC_lt hq
      rw [List.getD_eq_getElem?_getD, List.getElem?_eq_getElem ql] at e
      have := (List.getElem_inj nd).mp e
      subst this
      unfold rowC at hq
      exact of_decide_eq_true (List.mem_filter.mp hq).2
    · intro m
      refine List.mem_map.mpr ⟨p, ?_, ?_⟩
      · unfold rowC
        exact List.mem_filter.mpr ⟨hp, decide_eq_true m⟩
      · rw [List.getD_eq_getElem?_getD, List.getElem?_eq_getElem pl]
        rfl
  have := (key c).symm.trans ((by rw [h]) : zs[p] ∈ namesAt zs (rowC zs.length c) ↔ zs[p] ∈ namesAt zs (rowC zs.length d))
  exact decide_eq_decide.mpr (this.trans (key d))
theorem lots_nodup {zs : List Str} {rws : List (List Str)} (nd : zs.Nodup) (h : LotsOk zs rws) : rws.Nodup := by
  obtain ⟨o, rfl, p, _⟩ := h
  have n : o.Nodup := p.nodup_iff.mpr (codes_nodup zs.length)
  rw [List.nodup_iff_pairwise_ne, List.pairwise_map]
  refine List.Pairwise.imp_of_mem (fun {x y} hx hy hxy e => ?_) (List.nodup_iff_pairwise_ne.mp n)
  obtain ⟨c, hc, rfl⟩ := List.mem_map.mp (p.mem_iff.mp hx)
  obtain ⟨d, hd, rfl⟩ := List.mem_map.mp (p.mem_iff.mp hy)
  exact hxy (names_inj nd e)
theorem sub_eqB {a b zs : List Str} (nd : zs.Nodup) (ha : a.Sublist zs) (hb : b.Sublist zs) (h : inB b a = true) (l : a.length ≤ b.length) : b = a := by
  have e1 := sub_filterG ha nd
  have e2 := sub_filterG hb nd
  have sub : b.Sublist a := by
    have e : zs.filter (fun z => decide (z ∈ b)) = (zs.filter fun z => decide (z ∈ a)).filter fun z => decide (z ∈ b) := by
      rw [List.filter_filter]
      refine List.filter_congr fun z _ => ?_
      by_cases hb : z ∈ b
      · simp [hb, inB_iff.mp h z hb]
      · simp [hb]
    rw [← e2, e, e1]
    exact List.filter_sublist
  exact sub.eq_of_length_le l
theorem lots_ord {zs : List Str} (nd : zs.Nodup) {rws : List (List Str)} (h : LotsOk zs rws) : rws.Nodup ∧ OrdB rws := by
  have rn := lots_nodup nd h
  refine ⟨rn, ?_⟩
  obtain ⟨o, rfl, p, st⟩ := h
  have n : o.Nodup := p.nodup_iff.mpr (codes_nodup zs.length)
  have st : o.Pairwise fun x y : List Nat => ltLen (y.map fun p : Nat => (p : Int)) (x.map fun p : Nat => (p : Int)) = false := st
  unfold OrdB
  rw [List.pairwise_map]
  refine List.Pairwise.imp_of_mem (fun {x y} hx hy hxy => ?_) (List.Pairwise.and (List.nodup_iff_pairwise_ne.mp n) st)
  obtain ⟨c, hc, rfl⟩ := List.mem_map.mp (p.mem_iff.mp hx)
  obtain ⟨d, hd, rfl⟩ := List.mem_map.mp (p.mem_iff.mp hy)
  obtain ⟨ne, lt⟩ := hxy
  refine Bool.eq_false_iff.mpr fun hin => ne ?_
  have len : (namesAt zs (rowC zs.length c)).length ≤ (namesAt zs (rowC zs.length d)).length := by
    unfold namesAt
    rw [List.length_map, List.length_map]
    unfold ltLen at lt
    rw [List.length_map, List.length_map] at lt
    by_cases e : (rowC zs.length d).length = (rowC zs.length c).length
    · omega
    · rw [if_neg e] at lt
      have := of_decide_eq_false lt
      omega
  exact (names_inj nd (sub_eqB nd (namesAt_sub zs _ c rfl) (namesAt_sub zs _ d rfl) hin len)).symm
end K6
set_option Elab.async false
set_option linter.all false
set_option maxRecDepth 100000
set_option maxHeartbeats 1500000
set_option pp.maxSteps 1200
set_option pp.deepTerms false
namespace K6
open PySem PySem.Spec PyProof.Rows L2 Lk
theorem fold_subF (p : List Str → Bool) : ∀ (rws kept : List (List Str)), ∃ m, m.Sublist rws ∧ rws.foldl (stepF p) kept = kept ++ m ∧ ∀ x ∈ m, p x = true
  | [], kept => ⟨[], .slnil, by simp, fun _ h => by cases h⟩
  | x :: rws, kept => by
    rw [List.foldl_cons]
    obtain ⟨m, h1, h2, h3⟩ := fold_subF p rws (stepF p kept x)
    rw [h2]
    unfold stepF
    by_cases h : (p x && !(kept.any fun r => r.all fun y => decide (y ∈ x))) = true
    · rw [if_pos h]
      refine ⟨x :: m, h1.cons₂ x, by rw [List.append_assoc]; rfl, fun y hy => ?_⟩
      rcases List.mem_cons.mp hy with rfl | hy
      · rw [Bool.and_eq_true] at h
        exact h.1
      · exact h3 y hy
    · rw [if_neg h]
      exact ⟨m, h1.cons x, rfl, h3⟩
theorem least_subl (p : List Str → Bool) (rws : List (List Str)) : (leastF p rws).Sublist rws ∧ ∀ x ∈ leastF p rws, p x = true := by
  obtain ⟨m, h1, h2, h3⟩ := fold_subF p rws []
  unfold leastF
  rw [h2, List.nil_append]
  exact ⟨h1, h3⟩
theorem fold_anti (p : List Str → Bool) : ∀ (rws kept : List (List Str)), kept.Pairwise (fun a b => inB a b = false) → (rws.foldl (stepF p) kept).Pairwise fun a b => inB a b = false
  | [], _, h => h
  | x :: rws, kept, h => by
    rw [List.foldl_cons]
    refine fold_anti p rws _ ?_
    unfold stepF
    by_cases g : (p x && !(kept.any fun r => r.all fun y => decide (y ∈ x))) = true
    · rw [if_pos g]
      rw [Bool.and_eq_true, Bool.not_eq_true'] at g
      refine List.pairwise_append.mpr ⟨h, List.pairwise_singleton _ _, fun a ha b hb => ?_⟩
      rw [List.mem_singleton.mp hb]
      exact Bool.eq_false_iff.mpr fun z => by
        have : (kept.any fun r => r.all fun y => decide (y ∈ x)) = true := List.any_eq_true.mpr ⟨a, ha, z⟩
        rw [g.2] at this
        cases this
    · rw [if_neg g]
      exact h
/-- a family: the least lots of some, at least one -/
def FamOk (zs : List Str) (rows : List (List Str)) : Prop := rows ≠ [] ∧ ∃ rws p, LotsOk zs rws ∧ rows = leastF p rws
theorem FamOk.sub {zs : List Str} {rows : List (List Str)} (h : FamOk zs rows) : ∀ r ∈ rows, r.Sublist zs := fun r hr => by
  obtain ⟨_, rws, p, lo, rfl⟩ := h
  exact lots_sub lo (leastF_mem r hr)
theorem FamOk.nd {zs : List Str} {rows : List (List Str)} (h : FamOk zs rows) (nd : zs.Nodup) : rows.Nodup := by
  obtain ⟨_, rws, p, lo, rfl⟩ := h
  exact (lots_nodup nd lo).sublist (least_subl p rws).1
theorem least63 {zs : List Str} {rws : List (List Str)} (lo : LotsOk zs rws) (nd : zs.Nodup) (l6 : zs.length ≤ 6) (p : List Str → Bool) : (leastF p rws).length < 64 := by
  have r64 := lots_64 lo l6
  have sb := (least_subl p rws).1
  refine Nat.lt_of_le_of_ne (Nat.le_trans sb.length_le r64) fun e => ?_
  have same : leastF p rws = rws := sb.eq_of_length_le (by omega)
  have an : rws.Pairwise fun a b => inB a b = false := by
    rw [← same]
    exact fold_anti p rws [] .nil
  have ord := (lots_ord nd lo).2
  unfold OrdB at ord
  have h0 : [] ∈ rws := lots_has lo nd (List.nil_sublist _)
  have hz : zs ∈ rws := lots_has lo nd (List.Sublist.refl _)
  have len : rws.length = 2 ^ zs.length := by
    obtain ⟨o, rfl, q, _⟩ := lo
    rw [List.length_map, q.length_eq, List.length_map, List.length_range]
  have zne : zs ≠ [] := fun z => by
    rw [z] at len
    rw [same] at e
    rw [e] at len
    cases len
  obtain ⟨l1, l2, e1⟩ := List.append_of_mem h0
  rw [e1] at an ord hz
  rw [List.pairwise_append] at an ord
  rcases List.mem_append.mp hz with hz | hz
  · have := ord.2.2 zs hz [] List.mem_cons_self
    cases this
  · rcases List.mem_cons.mp hz with hz | hz
    · exact zne hz
    · have := (List.pairwise_cons.mp an.2.1).1 zs hz
      cases this
theorem FamOk.few {zs : List Str} {rows : List (List Str)} (h : FamOk zs rows) (nd : zs.Nodup) (l6 : zs.length ≤ 6) : rows.length < 64 := by
  obtain ⟨_, rws, p, lo, rfl⟩ := h
  exact least63 lo nd l6 p
theorem upP_mem {rows rws : List (List Str)} (sub : ∀ r ∈ rows, r ∈ rws) (y : List Str) : upP (fun r => decide (r ∈ rows)) rws y ↔ hasB rows y = true := by
  rw [hasB_iff]
  constructor
  · rintro ⟨s, _, h, g⟩
    exact ⟨s, of_decide_eq_true h, g⟩
  · rintro ⟨s, h, g⟩
    exact ⟨s, sub s h, decide_eq_true h, g⟩
/-- the least lots of a family are the family -/
theorem FamOk.least {zs : List Str} {rows rws : List (List Str)} (h : FamOk zs rows) (nd : zs.Nodup) (lo : LotsOk zs rws) : leastF (fun r => decide (r ∈ rows)) rws = rows := by
  obtain ⟨_, rws2, p, lo2, rfl⟩ := h
  obtain rfl := lots_uniq lo lo2
  refine least_ext (lots_ord nd lo).2 fun r hr => ?_
  rw [upP_mem (fun r hr => leastF_mem r hr), has_least]
theorem memb_up {rows rws : List (List Str)} (q : List Str → Bool) (mono : ∀ s r, q s = true → inB s r = true → q r = true) (y : List Str) (hy : y ∈ rws) : upP q rws y ↔ q y = true := by
  constructor
  · rintro ⟨s, _, h, g⟩
    exact mono s y h g
  · exact fun h => ⟨y, hy, h, inB_refl y⟩
theorem joined_least {zs : List Str} {one two rws : List (List Str)} (nd : zs.Nodup) (lo : LotsOk zs rws) (h1 : ∀ r ∈ one, r.Sublist zs) (h2 : ∀ r ∈ two, r.Sublist zs) :
    leastF (fun r => decide (r ∈ one ++ two)) rws = leastF (fun r => decide (r ∈ rws.filter (hasB one) ++ rws.filter (hasB two))) rws := by
  refine least_ext (lots_ord nd lo).2 fun y hy => ?_
  rw [upP_mem (rows := one ++ two) fun r hr => (List.mem_append.mp hr).elim (fun h => lots_has lo nd (h1 r h)) fun h => lots_has lo nd (h2 r h)]
  rw [upP_mem (rows := rws.filter (hasB one) ++ rws.filter (hasB two)) fun r hr => (List.mem_append.mp hr).elim (fun h => (List.mem_filter.mp h).1) fun h => (List.mem_filter.mp h).1]
  rw [hasB_iff, hasB_iff]
  constructor
  · rintro ⟨r, hr, h⟩
    refine ⟨y, ?_, inB_refl y⟩
    rcases List.mem_append.mp hr with hr | hr
    · exact List.mem_append_left _ (List.mem_filter.mpr ⟨hy, hasB_iff.mpr ⟨r, hr, h⟩⟩)
    · exact List.mem_append_right _ (List.mem_filter.mpr ⟨hy, hasB_iff.mpr ⟨r, hr, h⟩⟩)
  · rintro ⟨r, hr, h⟩
    rcases List.mem_append.mp hr with hr | hr
    · obtain ⟨s, hs, g⟩ := hasB_iff.mp (List.mem_filter.mp hr).2
      exact ⟨s, List.mem_append_left _ hs, inB_trans g h⟩
    · obtain ⟨s, hs, g⟩ := hasB_iff.mp (List.mem_filter.mp hr).2
      exact ⟨s, List.mem_append_right _ hs, inB_trans g h⟩
/-- the lot of two lots -/
def lotU (zs a b : List Str) : List Str := zs.filter fun z => decide (z ∈ a ++ b)
theorem lotU_in {zs a b y : List Str} (ha : a.Sublist zs) (hb : b.Sublist zs) : inB (lotU zs a b) y = true ↔ inB a y = true ∧ inB b y = true := by
  rw [inB_iff, inB_iff, inB_iff]
  unfold lotU
  constructor
  · intro h
    exact ⟨fun z hz => h z (List.mem_filter.mpr ⟨ha.subset hz, decide_eq_true (List.mem_append_left _ hz)⟩), fun z hz => h z (List.mem_filter.mpr ⟨hb.subset hz, decide_eq_true (List.mem_append_right _ hz)⟩)⟩
  · rintro ⟨h1, h2⟩ z hz
    rcases List.mem_append.mp (of_decide_eq_true (List.mem_filter.mp hz).2) with h | h
    · exact h1 z h
    · exact h2 z h
def lotsU (zs : List Str) (one two : List (List Str)) : List (List Str) := one.flatMap fun a => two.map fun b => lotU zs a b
theorem shared_least {zs : List Str} {one two rws : List (List Str)} (nd : zs.Nodup) (lo : LotsOk zs rws) (h1 : ∀ r ∈ one, r.Sublist zs) (h2 : ∀ r ∈ two, r.Sublist zs) :
    leastF (fun r => decide (r ∈ lotsU zs one two)) rws = leastF (fun r => decide (r ∈ (rws.filter (hasB one)).filter fun r => decide (r ∈ rws.filter (hasB two)))) rws := by
  refine least_ext (lots_ord nd lo).2 fun y hy => ?_
  rw [upP_mem (rows := lotsU zs one two) fun r hr => by
    obtain ⟨a, _, hr⟩ := List.mem_flatMap.mp hr
    obtain ⟨b, _, rfl⟩ := List.mem_map.mp hr
    exact lots_has lo nd List.filter_sublist]
  rw [upP_mem (rows := (rws.filter (hasB one)).filter fun r => decide (r ∈ rws.filter (hasB two))) fun r hr => (List.mem_filter.mp (List.mem_filter.mp hr).1).1]
  rw [hasB_iff, hasB_iff]
  constructor
  · rintro ⟨r, hr, h⟩
    obtain ⟨a, ha, hr⟩ := List.mem_flatMap.mp hr
    obtain ⟨b, hb, rfl⟩ := List.mem_map.mp hr
    obtain ⟨g1, g2⟩ := (lotU_in (h1 a ha) (h2 b hb)).mp h
    exact ⟨y, List.mem_filter.mpr ⟨List.mem_filter.mpr ⟨hy, hasB_iff.mpr ⟨a, ha, g1⟩⟩, decide_eq_true (List.mem_filter.mpr ⟨hy, hasB_iff.mpr ⟨b, hb, g2⟩⟩)⟩, inB_refl y⟩
  · rintro ⟨r, hr, h⟩
    obtain ⟨hr1, hr2⟩ := List.mem_filter.mp hr
    obtain ⟨a, ha, g1⟩ := hasB_iff.mp (List.mem_filter.mp hr1).2
    obtain ⟨b, hb, g2⟩ := hasB_iff.mp (List.mem_filter.mp (of_decide_eq_true hr2)).2
    exact ⟨lotU zs a b, List.mem_flatMap.mpr ⟨a, ha, List.mem_map.mpr ⟨b, hb, rfl⟩⟩, (lotU_in (h1 a ha) (h2 b hb)).mpr ⟨inB_trans g1 h, inB_trans g2 h⟩⟩
end K6
set_option Elab.async false
set_option linter.all false
set_option maxRecDepth 100000
set_option maxHeartbeats 4000000
/-! Part Et: enumerate of a tuple. -/
namespace Lk
open PySem PySem.Spec PyProof.Rows L2
set_option maxHeartbeats 1000000 in
theorem meets_enum1 {v : Value} {o : Obj} {H : Heap → Prop} (B : Begins v o H) :
    Meets (Builtin.«enumerate.__new__» ⟨[.type "enumerate", v], []⟩) (fun _ R s => H s.heap ∧
      R (.ok (.ret (.ref (s.heap.push o).objs.size))) { s with heap := (s.heap.push o).push { cls := .type "enumerate", data := .fields #[.none, .bool false, .ref s.heap.objs.size, rawInt 0, .none, .none] } }) :=
  .of_wp fun prog w A R s h => by
    obtain ⟨hp, g, d, tk, os⟩ := s; obtain ⟨h1, h⟩ := h
    have hsub := sub_enumerate
    have it1 : ∀ {A' : Around} {E : Value → Shared → Prop} {Q : Value → Shared → Prop}, Q (.ref hp.objs.size) ⟨hp.push o, g, d, tk, os⟩ → wpAny (model prog w) A' (pyIter v) Q E ⟨hp, g, d, tk, os⟩ :=
      fun q => B.iter prog w _ _ ⟨hp, g, d, tk, os⟩ _ h1 q
    wp_walk using it1
    refine wpAny_stack_any fun st => wpAny_pure ?_
    split
    · rename_i c _ _ _ _ _
      cases (c == Value.type "enumerate") <;>
      · wp_walk using it1
        exact ⟨_, rfl, h⟩
    · wp_walk using it1
      exact ⟨_, rfl, h⟩
theorem enum_one {prog : Program} {w : World} {A : Around} {E : Value → Shared → Prop} {s : Shared} {v : Value} {o : Obj} {H : Heap → Prop} {Q : Value → Shared → Prop} (B : Begins v o H) (h1 : H s.heap)
    (h : ∀ h', IsEnum h' (s.heap.objs.size + 1) s.heap.objs.size 0 .none → h'.get? s.heap.objs.size = some o → h'.objs.size = s.heap.objs.size + 2 →
      (∀ b o, s.heap.get? b = some o → h'.get? b = some o) → Q (.ref (s.heap.objs.size + 1)) { s with heap := h' }) :
    wpAny (model prog w) A (call (.type "enumerate") [v]) Q E s := by
  refine callType_new F.called_enumerate (by decide) (F.typeCall_enumerate_1 _) (F.newCall_enumerate_1 _) (fun obj => F.args_object_init_2 obj _) F.entry_enumerate_new (meets_enum1 B) ⟨h1, ?_⟩
  have sz : (s.heap.push o).objs.size = s.heap.objs.size + 1 := Heap.size_push ..
  show _ ∧ _
  rw [sz]
  have en := Heap.get?_push_size (s.heap.push o) (o := { cls := .type "enumerate", data := .fields #[.none, .bool false, .ref s.heap.objs.size, rawInt 0, .none, .none] }) rfl
  rw [sz] at en
  exact ⟨⟨_, en, rfl⟩, h _ en (Heap.get?_push_of_some _ (Heap.get?_push_size _ B.free)) (by rw [Heap.size_push, sz]) fun b o x => Heap.get?_push_of_some _ (Heap.get?_push_of_some _ x)⟩
/-- the tuple at a, its items in new pairs with their places -/
def ItET (K : PySem.W.Frag) (a : Addr) (n : Nat) : It :=
  ⟨fun i H => ∃ (xs : List V) (x : V), SqT K H a xs ∧ xs[i]? = some x ∧ xs.length = n, fun i H v H' => ∃ T x, v = .ref T ∧ H T = none ∧ H' = upd H T (.tup [.int (i : Nat), x]) ∧ ∀ xs, SqT K H a xs → xs[i]? = some x, fun i H => ∃ xs : List V, SqT K H a xs ∧ xs.length = n ∧ n ≤ i⟩
theorem turn_enumTp {P : Program} {w : World} {K : PySem.W.Frag} {elts : List Expr} {kk : Nat} {tpos : Pos} (a e it : Addr) (n : Nat) :
    Turn P w K (.Tuple elts kk tpos) (ItET K a n) [e, it] e (fun i h => i ≤ n ∧ (∃ old, IsEnum h e it ((i : Nat) : Int) old) ∧ h.IsTupleIter it a i ∧ e ≠ it) where
  mem := by simp
  obj := fun i h st b hb => by
    obtain ⟨_, ⟨old, he⟩, ⟨o, ho, hc, hd⟩, _⟩ := st
    have e' : b = e ∨ b = it := by simpa using hb
    rcases e' with z | z
    · rw [z]; exact ⟨_, he, fun v q => nomatch q⟩
    · rw [z]; exact ⟨o, ho, fun v q => by rw [hd] at q; cases q⟩
  keep := fun i h h' st k => let ⟨le, ⟨old, he⟩, hi, hne⟩ := st; ⟨le, ⟨old, k e (by simp) _ he⟩, hi.at fun o q => k it (by simp) o q, hne⟩
  item := by
    intro X hP hw hK hc i pins s σ H E I hf st hg
    subst hP hw hK
    obtain ⟨le, ⟨old, he⟩, hit, hne⟩ := st
    obtain ⟨xs, x, hq, hx, hn⟩ := hg
    obtain ⟨its, rv, p, hz⟩ := I.tuple hq
    obtain ⟨u, hu, ru⟩ := rv.get hx
    have hel : e < s.heap.objs.size := Heap.lt_size he
    have hil : it < s.heap.objs.size := by obtain ⟨_, q, _⟩ := hit; exact Heap.lt_size q
    have ea : e ≠ a := fun z => by
      obtain ⟨o, ho, hc', _⟩ := p
      rw [← z, he] at ho
      cases ho
      simp at hc'
    have ia : a ≠ it := fun z => by
      obtain ⟨o, ho, hc', _⟩ := p
      obtain ⟨o2, ho2, hc2, _⟩ := hit
      rw [z, ho2] at ho
      cases ho
      rw [hc2] at hc'
      simp at hc'
    have lt : i < its.toArray.size := by
      have h1 := (List.getElem?_eq_some_iff.mp hu).1
      simpa using h1
    refine wpAny_pyNext_enum_itemD (Draws.tuple (prog := X.prog) (w := X.w) (A := X.A.in1) (I.ok.hd hc) it a ia its.toArray) he ⟨hit, p⟩ lt hne (by simp [hne, ea]) fun y h' tk py ho hst' hT hsz hk => ?_
    obtain ⟨hit', _⟩ := hst'
    have yu : y = u := by
      have py : its.toArray[i]? = some y := py
      have : its[i]? = some y := by simpa using py
      rw [hu] at this
      exact (Option.some.inj this).symm
    subst yu
    refine ⟨_, rfl, wpAny_letOwnedTupleGo_enum (s := { s with heap := h', toks := tk + 1 }) ho fun h'' he' sb => ?_⟩
    have hT2 := (sb.2 _ (Nat.ne_of_gt hel)).trans hT
    have new : ObjOk X.prog X.w (upd H s.heap.objs.size (.tup [.int (i : Nat), x])) h'' s.heap.objs.size (.tup [.int (i : Nat), x]) :=
      ⟨by show 2 ≤ sizeLine; decide, [.int i tk, y], .cons ⟨_, rfl⟩ (.cons ru .nil), ⟨_, hT2, rfl, _, rfl⟩⟩
    have I1 : Inv X pins σ (upd H s.heap.objs.size (.tup [.int (i : Nat), x])) { s with heap := h'', toks := tk + 1 } :=
      I.turnedNew (ch := [e, it]) (fun b ob hb q => (sb.2 b (fun z => hb (by simp [z]))).trans (hk b ob (fun z => hb (by simp [z])) (fun z => hb (by simp [z])) q)) hf (Nat.le_refl _) new
    refine ⟨.ref s.heap.objs.size, _, I1, rfl, ⟨_, x, rfl, I.hok.fresh (Nat.le_refl _), rfl, fun ys hy => by rw [I.tuple_inj hy hq]; exact hx⟩, ⟨?_, ⟨y, ?_⟩, hit'.at fun o q => (sb.2 it (Ne.symm hne)).trans q, hne⟩, fun b hb => ?_⟩
    · have := (List.getElem?_eq_some_iff.mp hx).1
      omega
    · have e1 : ((i + 1 : Nat) : Int) = (i : Int) + 1 := by omega
      rw [e1]; exact he'
    · have hb' : b < s.heap.objs.size := by
        have e' : b = e ∨ b = it := by simpa using hb
        rcases e' with z | z
        · rw [z]; exact hel
        · rw [z]; exact hil
      rw [upd_ne (Nat.ne_of_lt hb')]
      exact (hf b hb).1
  done := by
    intro X hP hw hK hc i pins s σ H E I hf st hg
    subst hP hw hK
    obtain ⟨le, ⟨old, he⟩, hit, hne⟩ := st
    obtain ⟨xs, hq, hn, hx⟩ := hg
    obtain ⟨its, rv, p, hz⟩ := I.tuple hq
    obtain ⟨f0, f1, f2, f3, f4, f5⟩ := hf it (by simp)
    have hl := rv.length
    have ia : a ≠ it := fun z => by
      obtain ⟨o, ho, hc', _⟩ := p
      obtain ⟨o2, ho2, hc2, _⟩ := hit
      rw [z, ho2] at ho
      cases ho
      rw [hc2] at hc'
      simp at hc'
    have e1 : i = its.toArray.size := by
      have : its.toArray.size = its.length := by simp
      omega
    rw [e1] at he hit
    exact wpAny_pyNext_enum_endD (Draws.tuple (prog := X.prog) (w := X.w) (A := X.A.in1) (I.ok.hd hc) it a ia its.toArray) he ⟨hit, p⟩ fun h' eb => ⟨rfl, I.turned (t' := s.toks) (fun b o hb q => eb b o hb q) f0 f1 f3 f4 f5⟩
  self := fun A i s Q E st h => let ⟨_, ⟨_, he⟩, _⟩ := st; wpAny_pyIter_enum he h
def iEnumTp (K : PySem.W.Frag) (ta : TA) : TI := fun σ H R => ta σ H fun vs H1 => ∃ a xs, vs = [.ref a] ∧ SqT K H1 a xs ∧ R (ItET K a xs.length) H1
theorem pi_enumTp {X : Cx} {e : Expr} {ta : TA} {p pos tpos : Pos} {elts : List Expr} {kk : Nat} (hg : Gl X "enumerate") (hm : X.mg "enumerate" = none) (ha : PA X [e] ta) (hs : starEach [e] X.env = [(false, eval e X.env)] := by rfl) :
    PI X (.Tuple elts kk tpos) (.Call (.Name "enumerate" p) [e] [] pos) (iEnumTp X.K ta) := by
  refine ⟨fun pins s σ H R I h => ?_⟩
  refine Call_ (ld_blt I hg hm boot_enumerate (PyProof.Rows.callWith_type1 (thn (ha.run pos pins s σ H _ I h) fun us s1 ⟨vs, H1, I1, r1, q1⟩ => ?_) hs rfl))
  obtain ⟨a, xs, ex, hq, q⟩ := q1
  subst ex
  cases r1 with
  | cons r rr =>
    cases rr
    cases r
    obtain ⟨its, rv, p', hz⟩ := I1.tuple hq
    refine enum_one (begins_tuple a its.toArray) p' fun h' he hit hsz hk => wpAny_pyIter_enum he ?_
    have I2 : Inv X pins σ H1 { s1 with heap := h' } := I1.kept (t' := s1.toks) hk
    refine ⟨s1.heap.objs.size + 1, [s1.heap.objs.size + 1, s1.heap.objs.size], _, _, H1, rfl, I2, turn_enumTp a (s1.heap.objs.size + 1) s1.heap.objs.size xs.length, ⟨Nat.zero_le _, ⟨.none, he⟩, ⟨_, hit, rfl, rfl⟩, Nat.succ_ne_self _⟩, fun b hb => ?_, q⟩
    have e' : b = s1.heap.objs.size + 1 ∨ b = s1.heap.objs.size := by simpa using hb
    have hle : s1.heap.objs.size ≤ b := by
      rcases e' with z | z
      · rw [z]; exact Nat.le_add_right _ _
      · rw [z]; exact Nat.le_refl _
    exact I1.fpOk hle (I1.hok.fresh hle)
theorem walk_enumTp {K : PySem.W.Frag} {a : Addr} {xs : List V} : Walk (ItET K a xs.length) xs.length (fun H => SqT K H a xs) (YPair (fun i => some (.int (i : Nat))) (fun i => xs[i]?)) := by
  refine ⟨fun i _ hi q => ⟨xs, xs[i], q, by simp [hi], rfl⟩, fun _ q => ⟨xs, q, rfl, Nat.le_refl _⟩, fun i H v H' _ q y => ?_⟩
  obtain ⟨T, x, h1, h2, h3, h4⟩ := y
  exact ⟨T, .int (i : Nat), x, h1, h2, h3, rfl, h4 xs q⟩
end Lk
set_option Elab.async false
set_option linter.all false
set_option maxRecDepth 100000
set_option maxHeartbeats 4000000
/-! set(x) of texts that may stand twice, its length. -/
namespace LkSd
open PySem PySem.Spec PyProof.Rows
section
variable {p : Program} {w : World} {A : Around} {R : Result → Shared → Prop} {I : Addr} {fp wr : List Addr} {G : Array GenState → Array GenState → Prop} {n : Nat} {P : Nat → Value → Prop} {St : Nat → Shared → Prop}
/-- how many unlike texts stand in front of place i -/
def cntS (zs : List Str) : Nat → Nat
  | 0 => 0
  | i + 1 => if (zs.take i).any (· == zs.getD i Str.empty) = true then cntS zs i else cntS zs i + 1
theorem cntS_le (zs : List Str) : ∀ i, cntS zs i ≤ i
  | 0 => Nat.le_refl _
  | i + 1 => by
    have := cntS_le zs i
    unfold cntS
    split <;> omega
theorem strs_put (W : WalksS p w A.in1 I fp wr G n P St) (S : Addr) (out : S ∉ fp) (zs : List Str) (sz : zs.length = n) (few : n + 1 < scanBound) (val : ∀ i v, P i v → ∃ t, v = .str (zs.getD i Str.empty) t) :
    ∀ (d i : Nat) (s : Shared), n - i = d → i ≤ n → St i s → s.heap.SetOf (strKind p w) S (fun y => (zs.take i).any (· == y)) (cntS zs i) →
      (∀ s2, Moved (S :: wr) G s s2 → s2.heap.SetOf (strKind p w) S (fun y => zs.any (· == y)) (cntS zs n) → R (.ok (.ret .none)) s2) → codeAny (model p w) A (.builtin "set.update.loop" ⟨[.ref S, .ref I], []⟩) R s := by
  have out2 : S ∉ wr := fun q => out (W.sub _ q)
  have wide : ∀ b ∈ wr, b ∈ S :: wr := fun b q => List.mem_cons_of_mem _ q
  intro d
  induction d with
  | zero =>
    intro i s ed hi st has fin
    obtain rfl : i = n := by omega
    refine codeAny_builtin F.entry_set_update_loop ?_; rw [Around.under_plainId F.plain_set_update_loop _]
    show wpAny _ A.in1 (pyNext (.ref I) >>= _) _ _ s; refine wpAny_bind (W.done s _ _ st fun s2 mv => ?_)
    show wpAny _ A.in1 (ret Value.none) _ _ s2
    have e : zs.take i = zs := List.take_of_length_le (by omega)
    rw [e] at has
    obtain ⟨o, es, ep, t, ho, more⟩ := has
    exact wpAny_pure (fin s2 (mv.mono wide) ⟨o, es, ep, t, mv.heap S _ out2 ho, more⟩)
  | succ d ih =>
    intro i s ed hi st has fin
    have lt : i < n := by omega
    refine codeAny_builtin F.entry_set_update_loop ?_; rw [Around.under_plainId F.plain_set_update_loop _]
    show wpAny _ A.in1 (pyNext (.ref I) >>= _) _ _ s; refine wpAny_bind (W.item i s _ _ lt st fun v s2 pv st2 mv => ?_)
    obtain ⟨t, rfl⟩ := val i v pv
    have has2 : s2.heap.SetOf (strKind p w) S (fun y => (zs.take i).any (· == y)) (cntS zs i) := by
      obtain ⟨o, es, ep, tb, ho, more⟩ := has
      exact ⟨o, es, ep, tb, mv.heap S _ out2 ho, more⟩
    show wpAny _ A.in1 (holding [Value.str (zs.getD i Str.empty) t] (setAdd S (.str (zs.getD i Str.empty) t)) >>= _) _ _ s2
    refine wpAny_bind (wpAny_holding ?_); unfold setAdd; refine wpAny_holding (wpAny_bind ((strKind p w).pyHash (k := zs.getD i Str.empty) (strKind_is _ _ _ _) ?_))
    refine wpAny_setAddHashed_of (knd := strKind p w) (s := { s2 with toks := s2.toks + 1 }) (strKind_is _ _ _ _) rfl has2 (by have := cntS_le zs i; omega) fun g same has3 => ?_
    have has4 : g.SetOf (strKind p w) S (fun y => (zs.take (i + 1)).any (· == y)) (cntS zs (i + 1)) := by
      have lt2 : i < zs.length := by omega
      refine SetOf_congr has3 (fun y => ?_) rfl
      rw [List.take_add_one, List.any_append, List.getD_eq_getElem?_getD, List.getElem?_eq_getElem lt2]
      simp only [Option.getD_some, Option.toList_some, List.any_cons, List.any_nil, Bool.or_false]
      congr 1
      by_cases q : y = zs[i]
      · simp [q]
      · have q2 : ¬ zs[i] = y := fun z => q z.symm
        simp [q, q2]
    refine wpAny_pure ⟨plainId_quiet F.plain_set_update_loop _, ih (i + 1) _ (by omega) lt (W.frame _ s2 _ _ st2 (Nat.le_succ _) fun b hb o e => ?_) has4 fun s3 mv3 has5 => ?_⟩
    · rw [same.2 b (fun q : b = S => out (by rw [← q]; exact hb))] <;> exact e
    · refine fin s3 (Moved.trans W.gtrans ((mv.mono wide).then_heap (Nat.le_succ _) fun b o nb e => ?_) mv3) has5
      rw [same.2 b (fun q : b = S => nb (by rw [q]; exact List.mem_cons_self))] <;> exact e
end
abbrev emptyS (led : Bool) : Obj := { cls := .type "set", dict := none, data := .set #[] 0 (.fresh 0 0 led) }
section
variable {p : Program} {w : World} {A : Around} {E : Value → Shared → Prop} {s : Shared}

set_option maxHeartbeats 8000000 in
/-- set(x), x a list of unlike texts -/
theorem set_of_list {l : Addr} {its : Array Value} {zs : List Str} {Q : Value → Shared → Prop} (calm : A.handled = none) (at_ : s.heap.IsList l its) (are : StrsAre its.toList zs) (few : zs.length + 1 < scanBound)
    (k : ∀ (g : Heap) (tk : Nat), g.SetOf (strKind p w) s.heap.objs.size (fun y => zs.any (· == y)) (cntS zs its.size) → (∀ b o, s.heap.get? b = some o → g.get? b = some o) → Q (.ref s.heap.objs.size) { s with heap := g, toks := tk }) : wpAny (model p w) A (call (.type "set") [.ref l]) Q E s := by
  obtain ⟨c0, c1, eMro⟩ := F.called_set.mro; have eMade := F.called_set.made; have eSub := F.called_set.sub
  refine wpAny_call (codeAny_of_tree ?_); show wpAny _ _ (callAny (.type "set") _) _ _ _
  refine wpAny_pure ⟨Code.quiet_builtin _ (by decide +kernel), codeAny_builtin F.entry_type_call ?_⟩; rw [Around.under_plain (weight_type_call_type "set" [.ref l] []) rfl]
  have e1 := F.called_set.notType; have e2 := F.called_set.canCreate; have e3 := F.typeCall_set_1 (.ref l)
  repeat (any_goals (first | assumption | wp_step))
  refine codeAny_mono (code_set_new_1 (.ref l) (E := E) (Q₁ := fun o s₁ => ∃ led, o = .ref s.heap.objs.size ∧ s₁ = { s with heap := s.heap.push (emptyS led) }) fun led => ⟨led, rfl, rfl⟩) fun r s₁ er => ?_
  match r, er with
  | .error _, er => exact er
  | .ok .next, er => exact er.elim
  | .ok .brk, er => exact er.elim
  | .ok .cont, er => exact er.elim
  | .ok (.ret o), ⟨led, e5, e6⟩ =>
    subst e5 e6
    have eS : (s.heap.push (emptyS led)).get? s.heap.objs.size = some (emptyS led) := Heap.get?_push_size _ rfl
    have eT : Shared.TypeIs { s with heap := s.heap.push (emptyS led) } (.ref s.heap.objs.size) "set" := ⟨_, eS, rfl⟩
    have e7 := F.called_set.init.lookup; have e8 := F.called_set.init.bind (.ref s.heap.objs.size)
    repeat (any_goals (first | assumption | wp_step))
    refine codeAny_mono (codeAny_call_builtin (R := wants (fun r s₂ => r = .none ∧ ∃ g tk, s₂ = { s with heap := g, toks := tk } ∧ g.SetOf (strKind p w) s.heap.objs.size (fun y => zs.any (· == y)) (cntS zs its.size) ∧ ∀ b o, s.heap.get? b = some o → g.get? b = some o) E) F.called_set.init.plain F.entry_set_init (check_set_init_1 eT ?_)) fun r₂ s₂ er₂ => ?_
    · obtain ⟨⟨cls, odc, odt, osl⟩, here, ecl, m, edt⟩ := at_
      simp only at ecl edt; subst ecl edt
      have here2 : (s.heap.push (emptyS led)).get? l = some { cls := .type "list", dict := odc, data := .seq its m, slots := osl } := Heap.get?_push_of_some _ here
      have f1 := F.sub_list_set; have f2 := F.sub_list_frozenset; have f3 : (Value.type "list" == Value.type "dict") = false := by decide
      have its1 : (s.heap.push (emptyS led)).IsList l its := ⟨_, here2, rfl, m, rfl⟩
      unfold Builtin.«set.__init__» noKeywords Builtin.Frozenset.updateFrom
      generalize eIter : pyIter = It
      wp_walk
      subst eIter
      refine wpAny_pyIter_list its1 (wpAny_bind (wpAny_runValue ?_))
      have lt : l < s.heap.objs.size := Heap.lt_size here
      have calm3 : A.in1.in1.in1.handled = none := by simp [calm]
      have ps : (s.heap.push (emptyS led)).objs.size = s.heap.objs.size + 1 := Heap.size_push ..
      have n1 : l ≠ (s.heap.push (emptyS led)).objs.size := by rw [ps]; exact Nat.ne_of_lt (Nat.lt_succ_of_lt lt)
      have n2 : s.heap.objs.size ∉ [(s.heap.push (emptyS led)).objs.size, l] := by simp only [List.mem_cons, List.not_mem_nil, or_false, not_or, ps]; exact ⟨Nat.ne_of_lt (Nat.lt_succ_self _), Nat.ne_of_gt lt⟩
      have sz : zs.length = its.size := by rw [← StrsAre.len_eq are, Array.length_toList]
      have eS2 : ((s.heap.push (emptyS led)).push { cls := .type "list_iterator", data := .fields #[.ref l, .int 0 0] }).get? s.heap.objs.size = some (emptyS led) := Heap.get?_push_of_some _ eS
      refine strs_put ((Walks.list calm3 _ l n1 its).toS) s.heap.objs.size n2 zs sz (by omega) (fun i v ev => SS.strs_at are i v (by rw [Array.getElem?_toList]; exact ev)) its.size 0 _ rfl (Nat.zero_le _) ⟨⟨_, Heap.get?_push_size _ rfl, rfl, rfl⟩, its1.push _⟩
        (SetOf_congr ((setObjOf_fresh (knd := strKind p w) led).setOf eS2 (by unfold scanBound; omega)) (fun _ => rfl) rfl) fun s3 mv S3 => ?_
      obtain ⟨g3, gs3, dr3, tk3, os3⟩ := s3
      obtain rfl : gs3 = s.gens := mv.gens; obtain rfl : dr3 = s.drawn := mv.drawn; obtain rfl : os3 = s.os := mv.os
      show wpAny _ _ _ _ _ _; refine wpAny_pure ?_
      show wpAny _ _ (ret Value.none) _ _ _; refine wpAny_pure ⟨rfl, g3, tk3, rfl, S3, fun b o e => ?_⟩
      have lb : b < s.heap.objs.size := Heap.lt_size e
      exact mv.heap b o (by simp only [List.mem_cons, List.not_mem_nil, or_false, not_or, ps]; exact ⟨Nat.ne_of_lt lb, Nat.ne_of_lt (Nat.lt_succ_of_lt lb)⟩) (Heap.get?_push_of_some _ (Heap.get?_push_of_some _ e))
    · match r₂, er₂ with
      | .error _, er₂ => exact er₂
      | .ok .next, er₂ => exact er₂.elim
      | .ok .brk, er₂ => exact er₂.elim
      | .ok .cont, er₂ => exact er₂.elim
      | .ok (.ret _), ⟨e9, g, tk, e10, S9, k9⟩ =>
        subst e9 e10
        repeat (any_goals (first | assumption | wp_step))
        exact k _ _ S9 k9

set_option maxHeartbeats 8000000 in
/-- set(x), x a tuple of unlike texts -/
theorem set_of_tuple {l : Addr} {its : Array Value} {zs : List Str} {Q : Value → Shared → Prop} (calm : A.handled = none) (at_ : s.heap.IsTuple l its) (are : StrsAre its.toList zs) (few : zs.length + 1 < scanBound)
    (k : ∀ (g : Heap) (tk : Nat), g.SetOf (strKind p w) s.heap.objs.size (fun y => zs.any (· == y)) (cntS zs its.size) → (∀ b o, s.heap.get? b = some o → g.get? b = some o) → Q (.ref s.heap.objs.size) { s with heap := g, toks := tk }) : wpAny (model p w) A (call (.type "set") [.ref l]) Q E s := by
  obtain ⟨c0, c1, eMro⟩ := F.called_set.mro; have eMade := F.called_set.made; have eSub := F.called_set.sub
  refine wpAny_call (codeAny_of_tree ?_); show wpAny _ _ (callAny (.type "set") _) _ _ _
  refine wpAny_pure ⟨Code.quiet_builtin _ (by decide +kernel), codeAny_builtin F.entry_type_call ?_⟩; rw [Around.under_plain (weight_type_call_type "set" [.ref l] []) rfl]
  have e1 := F.called_set.notType; have e2 := F.called_set.canCreate; have e3 := F.typeCall_set_1 (.ref l)
  repeat (any_goals (first | assumption | wp_step))
  refine codeAny_mono (code_set_new_1 (.ref l) (E := E) (Q₁ := fun o s₁ => ∃ led, o = .ref s.heap.objs.size ∧ s₁ = { s with heap := s.heap.push (emptyS led) }) fun led => ⟨led, rfl, rfl⟩) fun r s₁ er => ?_
  match r, er with
  | .error _, er => exact er
  | .ok .next, er => exact er.elim
  | .ok .brk, er => exact er.elim
  | .ok .cont, er => exact er.elim
  | .ok (.ret o), ⟨led, e5, e6⟩ =>
    subst e5 e6
    have eS : (s.heap.push (emptyS led)).get? s.heap.objs.size = some (emptyS led) := Heap.get?_push_size _ rfl
    have eT : Shared.TypeIs { s with heap := s.heap.push (emptyS led) } (.ref s.heap.objs.size) "set" := ⟨_, eS, rfl⟩
    have e7 := F.called_set.init.lookup; have e8 := F.called_set.init.bind (.ref s.heap.objs.size)
    repeat (any_goals (first | assumption | wp_step))
    refine codeAny_mono (codeAny_call_builtin (R := wants (fun r s₂ => r = .none ∧ ∃ g tk, s₂ = { s with heap := g, toks := tk } ∧ g.SetOf (strKind p w) s.heap.objs.size (fun y => zs.any (· == y)) (cntS zs its.size) ∧ ∀ b o, s.heap.get? b = some o → g.get? b = some o) E) F.called_set.init.plain F.entry_set_init (check_set_init_1 eT ?_)) fun r₂ s₂ er₂ => ?_
    · obtain ⟨⟨cls, odc, odt, osl⟩, here, ecl, m, edt⟩ := at_
      simp only at ecl edt; subst ecl edt
      have here2 : (s.heap.push (emptyS led)).get? l = some { cls := .type "tuple", dict := odc, data := .seq its m, slots := osl } := Heap.get?_push_of_some _ here
      have f1 := F.sub_tuple_set; have f2 := F.sub_tuple_frozenset; have f3 : (Value.type "tuple" == Value.type "dict") = false := by decide
      have its1 : (s.heap.push (emptyS led)).IsTuple l its := ⟨_, here2, rfl, m, rfl⟩
      unfold Builtin.«set.__init__» noKeywords Builtin.Frozenset.updateFrom
      generalize eIter : pyIter = It
      wp_walk
      subst eIter
      refine wpAny_pyIter_tuple its1 (wpAny_bind (wpAny_runValue ?_))
      have lt : l < s.heap.objs.size := Heap.lt_size here
      have calm3 : A.in1.in1.in1.handled = none := by simp [calm]
      have ps : (s.heap.push (emptyS led)).objs.size = s.heap.objs.size + 1 := Heap.size_push ..
      have n1 : l ≠ (s.heap.push (emptyS led)).objs.size := by rw [ps]; exact Nat.ne_of_lt (Nat.lt_succ_of_lt lt)
      have n2 : s.heap.objs.size ∉ [(s.heap.push (emptyS led)).objs.size, l] := by simp only [List.mem_cons, List.not_mem_nil, or_false, not_or, ps]; exact ⟨Nat.ne_of_lt (Nat.lt_succ_self _), Nat.ne_of_gt lt⟩
      have sz : zs.length = its.size := by rw [← StrsAre.len_eq are, Array.length_toList]
      have eS2 : ((s.heap.push (emptyS led)).push { cls := .type "tuple_iterator", data := .fields #[.ref l, .int 0 0] }).get? s.heap.objs.size = some (emptyS led) := Heap.get?_push_of_some _ eS
      refine strs_put ((Walks.tuple calm3 _ l n1 its).toS) s.heap.objs.size n2 zs sz (by omega) (fun i v ev => SS.strs_at are i v (by rw [Array.getElem?_toList]; exact ev)) its.size 0 _ rfl (Nat.zero_le _) ⟨⟨_, Heap.get?_push_size _ rfl, rfl, rfl⟩, its1.push _⟩
        (SetOf_congr ((setObjOf_fresh (knd := strKind p w) led).setOf eS2 (by unfold scanBound; omega)) (fun _ => rfl) rfl) fun s3 mv S3 => ?_
      obtain ⟨g3, gs3, dr3, tk3, os3⟩ := s3
      obtain rfl : gs3 = s.gens := mv.gens; obtain rfl : dr3 = s.drawn := mv.drawn; obtain rfl : os3 = s.os := mv.os
      show wpAny _ _ _ _ _ _; refine wpAny_pure ?_
      show wpAny _ _ (ret Value.none) _ _ _; refine wpAny_pure ⟨rfl, g3, tk3, rfl, S3, fun b o e => ?_⟩
      have lb : b < s.heap.objs.size := Heap.lt_size e
      exact mv.heap b o (by simp only [List.mem_cons, List.not_mem_nil, or_false, not_or, ps]; exact ⟨Nat.ne_of_lt lb, Nat.ne_of_lt (Nat.lt_succ_of_lt lb)⟩) (Heap.get?_push_of_some _ (Heap.get?_push_of_some _ e))
    · match r₂, er₂ with
      | .error _, er₂ => exact er₂
      | .ok .next, er₂ => exact er₂.elim
      | .ok .brk, er₂ => exact er₂.elim
      | .ok .cont, er₂ => exact er₂.elim
      | .ok (.ret _), ⟨e9, g, tk, e10, S9, k9⟩ =>
        subst e9 e10
        repeat (any_goals (first | assumption | wp_step))
        exact k _ _ S9 k9
end
end LkSd
namespace Lk
open PySem PySem.Spec PyProof.Rows L2
/-- len(set(x)), x a list or a tuple of texts -/
def tLenSetC (K : PySem.W.Frag) (ta : TE) : TE := fun σ H Q => ta σ H fun x H1 => ∃ l, ∃ zs : List Str, x = .ref l ∧ Sq K H1 l (zs.map V.str) ∧ zs.length ≤ 1000 ∧ Q (.int (LkSd.cntS zs zs.length)) H1
theorem pe_lenSetC {X : Cx} {a : Expr} {ta : TE} {u1 u2 u3 pos : Pos} (hc : X.calm = true) (hg : Gl X "len") (hm : X.mg "len" = none) (hg2 : Gl X "set") (hm2 : X.mg "set" = none) (ha : PE X a ta)
    (na : starEach [a] X.env = (false, eval a X.env) :: starEach [] X.env := by rfl) : PE X (.Call (.Name "len" u1) [.Call (.Name "set" u2) [a] [] u3] [] pos) (tLenSetC X.K ta) := by
  refine ⟨fun pins s σ H Q I h => Call_ (ld_blt I hg hm boot_len (callWith_builtin1 (args_cons ?_ rfl) rfl rfl))⟩
  refine Call_ (ld_blt I hg2 hm2 boot_set (callWith_type1 (args_cons (thn (ha.run pins s σ H _ I h) fun v s1 ⟨x, H1, I1, r1, q1⟩ => args_nil ?_) na) na rfl))
  obtain ⟨l, zs, rfl, sq, few, q1⟩ := q1
  cases r1
  have lb : zs.length + 1 < scanBound := by unfold scanBound; omega
  have go : ∀ (its : List Value), Vals (zs.map V.str) its → ∀ (g : Heap) (tk : Nat), g.SetOf (strKind X.prog X.w) s1.heap.objs.size (fun y => zs.any (· == y)) (LkSd.cntS zs its.toArray.size) → (∀ b o, s1.heap.get? b = some o → g.get? b = some o) →
      wpAny (model X.prog X.w) X.A (spliced (backTo pos (starEach [] X.env))) (fun vs s₂ => wpAny (model X.prog X.w) X.A (call (.builtin "len") (Value.ref s1.heap.objs.size :: vs)) (EP X pins σ Q) X.xe s₂) X.xe { s1 with heap := g, toks := tk } := fun its r g tk has keep => by
    refine args_nil ?_
    have sz : its.toArray.size = zs.length := by rw [List.size_toArray, ← r.length, List.length_map]
    rw [sz] at has
    obtain ⟨o, es, ep, t, ho, hex, hd, _, _, _, hf, hn⟩ := has
    have I2 : Inv X pins σ H1 { s1 with heap := g, toks := tk } := I1.kept fun b o e => keep b o e
    exact call_len_set ho hex hd hf (by have := LkSd.cntS_le zs zs.length; rw [hn] <;> unfold scanBound at lb <;> omega) ⟨.int (LkSd.cntS zs zs.length), H1, I2.tok _, ⟨_, by rw [hn]⟩, q1⟩
  rcases sq with sq | sq
  · obtain ⟨its, r, pl, _⟩ := I1.list sq
    exact LkSd.set_of_list (I1.ok.hd hc) pl.isList (by simpa using strsAre_of r) lb fun g tk has keep => go its r g tk has keep
  · obtain ⟨its, r, pl, _⟩ := I1.tuple sq
    exact LkSd.set_of_tuple (I1.ok.hd hc) pl (by simpa using strsAre_of r) lb fun g tk has keep => go its r g tk has keep
theorem cnt_take (zs : List Str) : ∀ i, i ≤ zs.length → (LkSd.cntS zs i = i ↔ (zs.take i).Nodup)
  | 0, _ => by simp [LkSd.cntS]
  | i + 1, h => by
    have ih := cnt_take zs i (by omega)
    have le := LkSd.cntS_le zs i
    have e : zs.getD i Str.empty = zs[i] := by simp [List.getD_eq_getElem?_getD, show i < zs.length by omega]
    have et : zs.take (i + 1) = zs.take i ++ [zs[i]] := by rw [List.take_add_one, List.getElem?_eq_getElem (by omega)]; rfl
    rw [show LkSd.cntS zs (i + 1) = if (zs.take i).any (· == zs.getD i Str.empty) = true then LkSd.cntS zs i else LkSd.cntS zs i + 1 from rfl, et, List.nodup_append, e]
    by_cases m : zs[i] ∈ zs.take i
    · rw [if_pos (List.any_eq_true.mpr ⟨_, m, by simp⟩)]
      constructor
      · intro h
        omega
      · rintro ⟨_, _, h⟩
        exact absurd rfl (h _ m _ (List.mem_singleton.mpr rfl))
    · rw [if_neg (by
        intro q
        obtain ⟨y, hy, q⟩ := List.any_eq_true.mp q
        have : y = zs[i] := by simpa using q
        exact m (this ▸ hy))]
      constructor
      · intro h
        exact ⟨ih.mp (by omega), by simp, fun a ha b hb e => m (by rw [List.mem_singleton.mp hb] at e; exact e ▸ ha)⟩
      · rintro ⟨h, _, _⟩
        have := ih.mpr h
        omega
/-- as many as it is long just where none stands twice -/
theorem cnt_nodup (zs : List Str) : LkSd.cntS zs zs.length = zs.length ↔ zs.Nodup := by
  have := cnt_take zs zs.length (Nat.le_refl _)
  rwa [List.take_length] at this
end Lk
set_option Elab.async false
set_option linter.all false
set_option maxRecDepth 100000
set_option maxHeartbeats 4000000
/-! Part Su: set(x) of tuples of texts, its length. -/
namespace LkSu
open PySem PySem.Spec PyProof.Rows L2
/-- the tuple at b holds the texts z -/
abbrev TupS (p : Program) (w : World) (h : Heap) (z : List Str) (b : Addr) : Prop := IsTupleKey (strKind p w) h z b
abbrev hsh (p : Program) (w : World) (z : List Str) : Int := tupleKeyHash (strKind p w) z
abbrev At := Addr × List Str
/-- the place that the search stands at behind c steps -/
abbrev stp (t : SetTable) (h : Int) (c : Nat) : SetTable.Probe := nth t.mask (runAt t.mask (SetTable.bits h % (t.mask + 1)) (SetTable.bits h)) c
section
variable {p : Program} {w : World} {A : Around} {E : Value → Shared → Prop} {s : Shared}
theorem all_strs {z : List Str} {vs : List Value} (h : ItemsAre (strKind p w) z vs) : ∀ v ∈ vs, ∃ x t, v = Value.str x t := by
  induction h with
  | nil => exact fun v q => absurd q List.not_mem_nil
  | cons r _ ih =>
    intro v q
    rcases List.mem_cons.mp q with rfl | q
    · exact ⟨_, Value.isStrOf_shape r⟩
    · exact ih v q
theorem cls_str (n : Nat) (x : Str) (t : Tok) : ofAClassStatement n (.str x t) = pure false := by cases n <;> rfl
theorem val_str (n : Nat) (x : Str) (t : Tok) : hashByValue n (.str x t) = pure false := by cases n <;> rfl
theorem cls_tup {z : List Str} {b : Addr} {Q : Bool → Shared → Prop} (hz : TupS p w s.heap z b) (fin : Q false s) : wpAny (model p w) A (ofAClassStatement 8 (.ref b)) Q E s := by
  have ty := hz.typeIs
  obtain ⟨o, its, m, eo, _, ed, ei⟩ := hz
  unfold ofAClassStatement
  refine wpAny_bind (wpAny_typeOf ty ?_); dsimp only
  have q : (("tuple" : String) == "tuple") = true := by decide
  simp only [q, if_true, Bool.not_true, Bool.false_eq_true, if_false]
  show wpAny _ _ (seqItems? (.ref b) >>= fun _ => _) _ _ s
  refine wpAny_bind (wpAny_seqItems eo ed ?_); dsimp only; refine wpAny_bind ?_
  show wpAny _ _ (forIn its _ fun _ _ => _) _ _ s; rw [← Array.forIn_toList]
  refine wpAny_forIn_list _ (fun more r s1 => r.1 = none ∧ s1 = s ∧ ∀ v ∈ more, ∃ x t, v = Value.str x t) _ ?_ ?_ _ _ ⟨rfl, rfl, all_strs ei⟩
  · rintro v more r s1 ⟨e1, rfl, al⟩
    obtain ⟨x, t, rfl⟩ := al v List.mem_cons_self
    rw [cls_str]; refine wpAny_bind (wpAny_pure ?_); simp only [Bool.false_eq_true, if_false]
    exact wpAny_pure ⟨rfl, rfl, fun u q => al u (List.mem_cons_of_mem _ q)⟩
  · rintro ⟨r1, r2⟩ s1 ⟨e1, rfl, _⟩
    simp only at e1; subst e1
    exact wpAny_pure fin
theorem val_tup {z : List Str} {b : Addr} {Q : Bool → Shared → Prop} (hz : TupS p w s.heap z b) (fin : ∀ v, Q v s) : wpAny (model p w) A (hashByValue 8 (.ref b)) Q E s := by
  have ty := hz.typeIs
  obtain ⟨o, its, m, eo, _, ed, ei⟩ := hz
  unfold hashByValue
  refine wpAny_bind (wpAny_specialOf ty F.slot_tuple_hash.lookup ?_); show wpAny _ _ (seqItems? (.ref b) >>= fun _ => _) _ _ s
  refine wpAny_bind (wpAny_seqItems eo ed ?_); refine wpAny_bind ?_
  show wpAny _ _ (forIn its _ fun _ _ => _) _ _ s; rw [← Array.forIn_toList]
  refine wpAny_forIn_list _ (fun more r s1 => r.1 = none ∧ s1 = s ∧ ∀ v ∈ more, ∃ x t, v = Value.str x t) _ ?_ ?_ _ _ ⟨rfl, rfl, all_strs ei⟩
  · rintro v more r s1 ⟨e1, rfl, al⟩
    obtain ⟨x, t, rfl⟩ := al v List.mem_cons_self
    rw [val_str]; refine wpAny_bind (wpAny_pure ?_); simp only [Bool.not_false, if_true]
    exact wpAny_pure (wpAny_pure (fin false))
  · rintro ⟨r1, r2⟩ s1 ⟨e1, rfl, _⟩
    simp only at e1; subst e1
    exact wpAny_pure (fin true)
/-- to look a tuple up among tuples shows nothing of the table -/
theorem unseen {z : List Str} {b : Addr} {Q : Bool → Shared → Prop} (hz : TupS p w s.heap z b) {ys : List Value} (al : ∀ y ∈ ys, ∃ z' c, y = Value.ref c ∧ TupS p w s.heap z' c) (fin : Q false s) : wpAny (model p w) A (searchCouldBeSeen (.ref b) ys) Q E s := by
  unfold searchCouldBeSeen; refine wpAny_bind ?_
  refine wpAny_forIn_list _ (fun more r s1 => r.1 = none ∧ s1 = s ∧ ∀ y ∈ more, ∃ z' c, y = Value.ref c ∧ TupS p w s.heap z' c) _ ?_ ?_ _ _ ⟨rfl, rfl, al⟩
  · rintro v more r s1 ⟨e1, rfl, al⟩
    obtain ⟨z', c, rfl, hc⟩ := al v List.mem_cons_self
    have al2 : ∀ y ∈ more, ∃ z' c, y = Value.ref c ∧ TupS p w s1.heap z' c := fun u q => al u (List.mem_cons_of_mem _ q)
    dsimp only
    by_cases g : (b == c || (carriedByValue (.ref b) && carriedByValue (.ref c))) = true
    · exact wp_if_pos g (wpAny_pure ⟨rfl, rfl, al2⟩)
    · refine wp_if_neg g (wpAny_bind (wpAny_eqIsQuiet_tuple hz ?_)); simp only [Bool.not_true, Bool.false_eq_true, if_false]
      refine wpAny_bind (wpAny_eqIsQuiet_tuple hc ?_); simp only [Bool.not_true, Bool.false_eq_true, if_false]
      refine wpAny_bind (cls_tup hz ?_); simp only [Bool.false_eq_true, if_false]
      refine wpAny_bind (cls_tup hc ?_); simp only [Bool.false_eq_true, if_false]
      exact wpAny_pure ⟨rfl, rfl, al2⟩
  · rintro ⟨r1, r2⟩ s1 ⟨e1, rfl, _⟩
    simp only at e1; subst e1
    exact wpAny_pure fin
/-! ### a set of such tuples -/
def ents (p : Program) (w : World) (L : List At) : List (Int × Value) := L.map fun y => (hsh p w y.2, Value.ref y.1)
def hshs (p : Program) (w : World) (L : List At) : List Int := L.map fun y => hsh p w y.2
theorem ents_len (L : List At) : (ents p w L).length = L.length := List.length_map _
theorem hshs_len (L : List At) : (hshs p w L).length = L.length := List.length_map _
theorem ents_get {L : List At} {i : Nat} {y : At} (h : L[i]? = some y) : (ents p w L)[i]? = some (hsh p w y.2, Value.ref y.1) := by
  unfold ents
  rw [List.getElem?_map, h]
  rfl
theorem hshs_get {L : List At} {i : Nat} {y : At} (h : L[i]? = some y) : (hshs p w L)[i]? = some (hsh p w y.2) := by
  unfold hshs
  rw [List.getElem?_map, h]
  rfl
/-- at a stands a set of the tuples of L, its table as the model lays it -/
structure Holds (p : Program) (w : World) (h : Heap) (a : Addr) (L : List At) (es : Array (Int × Value)) (n : Nat) (t : SetTable) : Prop where
  obj : ∃ o, h.get? a = some o ∧ o.ExactSet ∧ o.data = .set es n t
  ent : es.toList = ents p w L
  lay : TabOk t (hshs p w L)
  one : (L.map (·.2)).Nodup
  tps : ∀ y ∈ L, TupS p w h y.2 y.1
  ldg : w.params.followText "set-order" = true ∨ t.led = true
  rm : L.length * 5 < t.mask * 3
  few : L.length < 64
variable {a : Addr} {L : List At} {es : Array (Int × Value)} {n : Nat} {t : SetTable}
theorem ents_size (h : es.toList = ents p w L) : es.size = L.length := by rw [← Array.length_toList, h, ents_len]
theorem Holds.get (R : Holds p w s.heap a L es n t) {i : Nat} {y : At} (h : L[i]? = some y) : es[i]? = some (hsh p w y.2, Value.ref y.1) := by rw [← Array.getElem?_toList, R.ent, ents_get h]
theorem Holds.pl (R : Holds p w s.heap a L es n t) : t.place.size = L.length := by rw [R.lay.sz, hshs_len]
theorem fits_of {n : Nat} (h1 : t.place.size = n) (h2 : t.dummies = #[]) (h3 : n ≤ t.mask) : t.fits n = true := by
  unfold SetTable.fits SetTable.fill
  rw [h2, Bool.and_eq_true, beq_iff_eq, decide_eq_true_eq]
  exact ⟨h1, by rw [h1]; exact h3⟩
theorem Holds.fit (R : Holds p w s.heap a L es n t) : t.fits es.size = true := by
  have e := ents_size R.ent
  have := R.rm
  exact fits_of (R.pl.trans e.symm) R.lay.dm (by omega)
theorem Holds.firm (R : Holds p w s.heap a L es n t) : ¬ t.gaveWay = true := by
  unfold SetTable.gaveWay
  rw [mask_odd R.lay.mok]
  decide
theorem same_mem (t : SetTable) : t.sameMemory t.moves t.mask = some true := if_pos (beq_self_eq_true _)
theorem stp_dummy (t : SetTable) (h : Int) (c : Nat) : (stp t h c).dummy = none := by
  have go : ∀ (m : Nat) (q : SetTable.Probe), q.dummy = none → (nth t.mask q m).dummy = none := by
    intro m
    induction m with
    | zero => exact fun q e => e
    | succ m ih => exact fun q e => ih (adv t.mask q) (by unfold adv; split <;> exact e)
  exact go c _ rfl
/-- the search among such tuples, from the step c on -/
theorem look (R : Holds p w s.heap a L es n t) {x : Addr} {z : List Str} (hx : TupS p w s.heap z x) (room : A.units < cLine) {K : Nat} (Kf : K < 10 * SetTable.turns t.mask)
    (free : way t.mask (hsh p w z) K ∉ t.place.toList) (taken : ∀ c, c < K → way t.mask (hsh p w z) c ∈ t.place.toList) {Q : SetFound → Shared → Prop} (yes : z ∈ L.map (·.2) → Q (.there none) s) (no : z ∉ L.map (·.2) → Q (.free (way t.mask (hsh p w z) K) false) s) :
    ∀ (f c : Nat) (sd : Option SetTable.Probe), sd.getD (t.probeStart (hsh p w z)) = stp t (hsh p w z) c → c ≤ K → K - c < f →
      (∀ (i : Nat) y, L[i]? = some y → y.2 = z → ∃ d, c ≤ d ∧ d < K ∧ t.place.toList[i]? = some (way t.mask (hsh p w z) d)) → wpAny (model p w) A (setSearchFrom a (.ref x) (hsh p w z) true f sd) Q E s := by
  obtain ⟨hz, ehz⟩ : ∃ hz, hz = hsh p w z := ⟨_, rfl⟩
  rw [← ehz] at free taken no ⊢
  have more : ∀ c q, nth t.mask (stp t hz c) q = stp t hz (c + q) := fun c q => (nth_add t.mask c _ q).symm
  have wy : ∀ c q, (nth t.mask (stp t hz c) q).j = way t.mask hz (c + q) := fun c q => congrArg SetTable.Probe.j (more c q)
  intro f
  induction f with
  | zero => exact fun c sd _ _ lt => absurd lt (Nat.not_lt_zero _)
  | succ f ih =>
    intro c sd esd ck lt ahead
    obtain ⟨o, eo, ex, ed⟩ := R.obj
    rw [setSearchFrom_succ]; refine wpAny_bind (wpAny_setState_of eo ed R.fit ?_); dsimp only
    refine wp_if_neg R.firm ?_
    have look := go_spec t R.lay.ris R.lay.dm (fun i => (es[i]?.map (·.1)).getD 0) hz (10 * SetTable.turns t.mask) (K - c) (stp t hz c) (stp_dummy t hz c) (by omega)
      (fun q lq => by rw [wy]; exact taken _ (by omega)) (by rw [wy, show c + (K - c) = K from by omega]; exact free)
    have hash : ∀ (i : Nat) y, L[i]? = some y → (es[i]?.map (·.1)).getD 0 = hsh p w y.2 := fun i y h => by rw [R.get h]; rfl
    rcases look with ⟨q, i, lq, ei, _, skip, found⟩ | ⟨skip, found⟩
    · have found : t.probe (fun i => (es[i]?.map (·.1)).getD 0) hz (sd.getD (t.probeStart hz)) = some (.candidate (way t.mask hz (c + q)) i (stp t hz (c + (q + 1)))) := by
        rw [esd, ← wy, ← more]; exact found
      rw [found]; dsimp only; rw [wy] at ei
      have il : i < L.length := by
        have := (List.getElem?_eq_some_iff.mp ei).1
        rw [Array.length_toList, R.pl] at this; exact this
      obtain ⟨y, ey⟩ : ∃ y, L[i]? = some y := ⟨_, List.getElem?_eq_getElem il⟩
      have ym := List.mem_of_getElem? ey
      have tail : wpAny (model p w) A (searchRest a (.ref x) hz true f es t (way t.mask hz (c + q)) i (stp t hz (c + (q + 1)))) Q E s := by
        unfold searchRest; rw [R.get ey]; dsimp only
        refine wpAny_bind (wpAny_holding (wpAny_eqBool_tuple room (R.tps y ym) hx ?_)); refine wpAny_bind (wpAny_setState_of eo ed R.fit ?_); dsimp only
        by_cases same : y.2 = z
        · exact wp_if_pos (by simp [same]) (wpAny_pure (yes (List.mem_map.mpr ⟨y, ym, same⟩)))
        · refine wp_if_neg (by simp [same]) ?_; rw [same_mem]; dsimp only
          have live : t.slot (way t.mask hz (c + q)) = .live i := slot_live R.lay.ris ei
          simp only [if_true, live, R.get ey]; refine wpAny_bind (wpAny_isSame_ref_self (wpAny_bind (wpAny_pure ?_))); simp only [if_true]
          refine wp_if_neg (by simp [same]) (ih (c + (q + 1)) _ rfl (by omega) (by omega) fun i2 y2 e2 k2 => ?_)
          obtain ⟨d, d1, d2, d3⟩ := ahead i2 y2 e2 k2
          refine ⟨d, ?_, d2, d3⟩
          rcases Nat.lt_trichotomy d (c + q) with lt2 | rfl | gt
          · exact absurd ((hash i2 y2 e2).trans (by rw [k2, ehz])) (skip (d - c) i2 (by omega) (by rw [wy, show c + (d - c) = d from by omega]; exact d3))
          · have l2 := slot_live R.lay.ris d3
            rw [live] at l2
            obtain rfl : i = i2 := by injection l2
            rw [ey] at e2
            exact absurd (by rw [Option.some.inj e2]; exact k2) same
          · omega
      by_cases led : t.led = true
      · exact wp_if_neg (by simp [led]) tail
      · refine wp_if_pos (by simp [led]) (wpAny_bind (unseen hx (fun u hu => ?_) (wp_if_neg (by decide) tail)))
        obtain ⟨e, me, rfl⟩ := List.mem_map.mp hu
        have me2 : e ∈ es.toList := by
          have : e ∈ es ∧ e.1 = hz := by simpa using me
          simpa using this.1
        rw [R.ent] at me2
        obtain ⟨y2, m2, rfl⟩ := List.mem_map.mp me2
        exact ⟨y2.2, y2.1, rfl, R.tps y2 m2⟩
    · have found : t.probe (fun i => (es[i]?.map (·.1)).getD 0) hz (sd.getD (t.probeStart hz)) = some (.empty (way t.mask hz K) none) := by
        have e2 : way t.mask hz K = (nth t.mask (stp t hz c) (K - c)).j := by rw [wy, show c + (K - c) = K from by omega]
        rw [esd, e2]; exact found
      rw [found]; dsimp only
      refine wpAny_pure (no fun m => ?_)
      obtain ⟨y, my, ey⟩ := List.mem_map.mp m
      obtain ⟨i, gi⟩ := List.mem_iff_getElem?.mp my
      obtain ⟨d, d1, d2, d3⟩ := ahead i y gi ey
      exact skip (d - c) i (by omega) (by rw [wy, show c + (d - c) = d from by omega]; exact d3) ((hash i y gi).trans (by rw [ey, ehz]))
/-- the search that adding makes -/
theorem look_add (R : Holds p w s.heap a L es n t) {x : Addr} {z : List Str} (hx : TupS p w s.heap z x) (room : A.units < cLine) {Q : SetFound → Shared → Prop} (yes : z ∈ L.map (·.2) → Q (.there none) s)
    (no : ∀ K, z ∉ L.map (·.2) → way t.mask (hsh p w z) K ∉ t.place.toList → (∀ c, c < K → way t.mask (hsh p w z) c ∈ t.place.toList) → Q (.free (way t.mask (hsh p w z) K) false) s) : wpAny (model p w) A (setSearch a (.ref x) (hsh p w z) true) Q E s := by
  have rm := R.rm
  obtain ⟨K, Kf, free, taken⟩ := R.lay.first (by rw [hshs_len]; omega) (hsh p w z)
  have small : 10 * SetTable.turns t.mask ≤ 1420 := by
    unfold SetTable.turns
    rcases R.lay.mok with q | q | q <;> omega
  unfold setSearch
  refine look R hx room Kf free taken yes (fun q => no K q free taken) 100000 0 none rfl (Nat.zero_le _) (by omega) fun i y e k => ?_
  have il : i < t.place.toList.length := by rw [Array.length_toList, R.pl]; exact (List.getElem?_eq_some_iff.mp e).1
  obtain ⟨d, ld, ed⟩ := R.lay.before free (by rw [hshs_get e, k]) (List.getElem?_eq_getElem il)
  exact ⟨d, Nat.zero_le _, ld, by rw [List.getElem?_eq_getElem il, ed]⟩
/-! ### adding -/
theorem tup_same {h h' : Heap} {z : List Str} {a b : Addr} {o : Obj} {es : Array (Int × Value)} {n : Nat} {t : SetTable} (hb : TupS p w h z b) (eo : h.get? a = some o) (ed : o.data = .set es n t) (sb : Heap.SameBut a h h') : TupS p w h' z b := by
  obtain ⟨o2, its, m, e2, c2, d2, i2⟩ := hb
  have ne : b ≠ a := fun q => by
    rw [q, eo] at e2
    rw [← Option.some.inj e2, ed] at d2
    cases d2
  exact ⟨o2, its, m, (sb.2 b ne).trans e2, c2, d2, i2⟩
theorem tup_keep {h h' : Heap} {z : List Str} {b : Addr} (x : TupS p w h z b) (keep : ∀ c o, h.get? c = some o → h'.get? c = some o) : TupS p w h' z b := let ⟨o, its, m, e, r⟩ := x; ⟨o, its, m, keep b o e, r⟩
theorem put_in {α : Type} (L : List α) (i : Nat) (x : α) : (L.take i ++ x :: L.drop i).Perm (x :: L) := by
  have q : (L.take i ++ x :: L.drop i).Perm (x :: (L.take i ++ L.drop i)) := List.perm_middle
  rwa [List.take_append_drop] at q
theorem fm_get {α : Type} (L : List α) : ∀ ns : List Nat, (∀ i ∈ ns, i < L.length) → ∃ K : List α, K = ns.filterMap (fun i => L[i]?) ∧ ∀ (β : Type) (g : α → β) (G : Nat → Option β), (∀ i x, L[i]? = some x → G i = some (g x)) → ns.filterMap G = K.map g
  | [], _ => ⟨[], rfl, fun _ _ _ _ => rfl⟩
  | i :: ns, h => by
    obtain ⟨K, e, f⟩ := fm_get L ns fun j q => h j (List.mem_cons_of_mem _ q)
    have gi := List.getElem?_eq_getElem (h i List.mem_cons_self)
    refine ⟨L[i]'(h i List.mem_cons_self) :: K, by rw [List.filterMap_cons_some gi, e], fun β g G q => ?_⟩
    rw [List.filterMap_cons_some (q i _ gi), f β g G q, List.map_cons]
theorem fm_range {α : Type} (L : List α) : ∀ m, m ≤ L.length → (List.range m).filterMap (fun i => L[i]?) = L.take m
  | 0, _ => rfl
  | m + 1, h => by
    have g := List.getElem?_eq_getElem (show m < L.length from h)
    rw [List.range_succ, List.filterMap_append, fm_range L m (by omega), List.take_add_one, List.filterMap_cons_some g, g]
    rfl
theorem fm_all {α β : Type} (f : α → β) : ∀ ns : List α, ns.filterMap (fun i => some (f i)) = ns.map f
  | [] => rfl
  | i :: ns => congrArg (f i :: ·) (fm_all f ns)
/-- the rows in the sequence in which the table is laid anew -/
theorem in_order {L : List At} {es : Array (Int × Value)} {ord : Array Nat} (e : es.toList = ents p w L) (q : ord.toList.Perm (List.range L.length)) :
    ∃ K, (ord.filterMap (es[·]?)).toList = ents p w K ∧ K.Perm L ∧ hshs p w K = ord.toList.map fun i => (es.map (·.1)).getD i 0 := by
  have at_ : ∀ (i : Nat) (y : At), L[i]? = some y → es[i]? = some (hsh p w y.2, Value.ref y.1) := fun i y g => by rw [← Array.getElem?_toList, e, ents_get g]
  obtain ⟨K, eK, fK⟩ := fm_get L ord.toList fun i m => List.mem_range.mp (q.mem_iff.mp m)
  refine ⟨K, ?_, ?_, ?_⟩
  · rw [Array.toList_filterMap]
    exact fK _ (fun y => (hsh p w y.2, Value.ref y.1)) (fun i => es[i]?) at_
  · have h1 : K.Perm ((List.range L.length).filterMap fun i => L[i]?) := by rw [eK]; exact q.filterMap _
    rwa [fm_range L L.length (Nat.le_refl _), List.take_length] at h1
  · have h2 := fK Int (fun y => hsh p w y.2) (fun i => some ((es.map (·.1)).getD i 0)) fun i y g => by
      have : (es.map (·.1))[i]? = some (hsh p w y.2) := by rw [Array.getElem?_map, at_ i y g]; rfl
      simp [Array.getD_eq_getD_getElem?, this]
    rw [fm_all] at h2
    exact h2.symm
/-- the table is laid anew -/
theorem relay {o : Obj} (eo : s.heap.get? a = some o) (ex : o.ExactSet) (ed : o.data = .set es n t) (ee : es.toList = ents p w L) (sz : t.place.size = es.size) (dm : t.dummies = #[]) (fl : es.size ≤ t.mask) (one : (L.map (·.2)).Nodup) (tps : ∀ y ∈ L, TupS p w s.heap y.2 y.1)
    (ldg : w.params.followText "set-order" = true ∨ t.led = true) (few : L.length < 64) {wt M : Nat} (ew : SetTable.sizeAbove wt - 1 = M) (mk : MaskOk M) (w128 : SetTable.sizeAbove wt ≤ 128) (rm : L.length * 5 < M * 3) {Q : Unit → Shared → Prop}
    (fin : ∀ h' L' es' n' t', Heap.SameBut a s.heap h' → Holds p w h' a L' es' n' t' → L'.Perm L → Q () { s with heap := h' }) : wpAny (model p w) A (setRelay a wt) Q E s := by
  have el := ents_size ee
  obtain ⟨t', ord, er, pm, lay, em, eled, _, _⟩ := relaid_ok t (hs := es.map (·.1)) (wanted := wt) ew mk (by rw [Array.size_map, el]; omega)
  rw [Array.size_map, el] at pm
  obtain ⟨K, k1, k2, k3⟩ := in_order ee pm
  rw [← k3] at lay
  have ks : (ord.filterMap (es[·]?)).size = es.size := by rw [ents_size k1, k2.length_eq, el]
  rw [setRelay_eq]; refine wpAny_bind (wpAny_setState_of eo ed (fits_of sz dm fl) ?_); dsimp only
  refine wp_if_neg (by rw [sizeLine_eq]; omega) ?_; rw [er]; dsimp only
  refine wpAny_bind (wp_if_neg (by rw [ks]; simp) (wpAny_pure ?_)); dsimp only
  refine wpAny_storeSet_of eo ed ?_ (by rw [ks, el, sizeLine_eq]; omega)
  have sb : Heap.SameBut a s.heap (s.heap.update a (Obj.putSet (ord.filterMap (es[·]?)) t')) := Heap.SameBut.update ..
  refine fin _ K _ (n + 1) t' sb ⟨⟨_, store_at eo ed, ⟨ex.1, ex.2.1, ex.2.2⟩, rfl⟩, k1, lay, (k2.map (·.2)).nodup_iff.mpr one, fun y m => tup_same (tps y (k2.mem_iff.mp m)) eo ed sb, by rw [eled]; exact ldg, ?_, by rw [k2.length_eq]; exact few⟩ k2
  rw [k2.length_eq, em]
  exact rm
/-- what is asked of the table alone stays when it is marked as not plain -/
theorem lay_plain {hs : List Int} (l : TabOk t hs) (b : Bool) : TabOk { t with plain := b } hs := ⟨l.ris, l.dm, l.sz, l.mok, l.bd, l.reach⟩
theorem add (R : Holds p w s.heap a L es n t) {x : Addr} {z : List Str} (hx : TupS p w s.heap z x) (room : A.units < cLine) (few : L.length + 1 < 64) {Q : Bool → Shared → Prop}
    (fin : ∀ b h' L' es' n' t', Heap.SameBut a s.heap h' → Holds p w h' a L' es' n' t' → (z ∈ L.map (·.2) → L' = L) → (z ∉ L.map (·.2) → L'.Perm ((x, z) :: L)) → Q b { s with heap := h' }) : wpAny (model p w) A (setAddHashed a (.ref x) (hsh p w z)) Q E s := by
  obtain ⟨o, eo, ex, ed⟩ := R.obj
  have el := ents_size R.ent
  have rm := R.rm
  unfold setAddHashed; refine wpAny_holding ?_
  rw [show (100000 : Nat) = 99999 + 1 from rfl, setAddHashedIn_succ]; refine wpAny_bind (wpAny_setState_of eo ed R.fit ?_); dsimp only
  refine wp_if_neg (by simp [byScan, Value.scannable]) ?_
  refine wpAny_bind (look_add R hx room (fun m => ?_) fun K nm free taken => ?_)
  · exact wpAny_pure (fin false s.heap L es n t (Heap.SameBut.refl a s.heap) R (fun _ => rfl) fun q => absurd m q)
  dsimp only; refine wpAny_bind (wpAny_setState_of eo ed R.fit ?_); dsimp only
  obtain ⟨f1, f2, f3, f4, f5, f6, f7, f8, f9⟩ := R.lay.put free taken
  generalize ept : t.put (way t.mask (hsh p w z) K) = pt at f1 f3 f4 f5 f6 f7 f8 f9 ⊢
  obtain ⟨t1, i⟩ := pt
  dsimp only at f1 f3 f4 f5 f6 f7 f8 f9 ⊢
  subst f1
  obtain ⟨pl, epl⟩ : ∃ pl, pl = t1.plain := ⟨_, rfl⟩
  have ei : (SetTable.insertAt es (SetTable.below t.place (way t.mask (hsh p w z) K)) (hsh p w z, Value.ref x)).toList = ents p w (L.take (SetTable.below t.place (way t.mask (hsh p w z) K)) ++ (x, z) :: L.drop (SetTable.below t.place (way t.mask (hsh p w z) K))) := by
    rw [SetTable.toList_insertAt, R.ent]; unfold ents
    rw [List.map_append, List.map_cons, List.map_take, List.map_drop]
  generalize SetTable.below t.place (way t.mask (hsh p w z) K) = i at f2 f3 ei ⊢
  have pm := put_in L i (x, z)
  have ll : (L.take i ++ (x, z) :: L.drop i).length = L.length + 1 := pm.length_eq
  have eh : hshs p w (L.take i ++ (x, z) :: L.drop i) = (hshs p w L).take i ++ hsh p w z :: (hshs p w L).drop i := by
    unfold hshs
    rw [List.map_append, List.map_cons, List.map_take, List.map_drop]
  rw [← eh] at f3
  have one1 : ((L.take i ++ (x, z) :: L.drop i).map (·.2)).Nodup := (pm.map (·.2)).nodup_iff.mpr (List.nodup_cons.mpr ⟨nm, R.one⟩)
  have es1 := ents_size ei
  rw [ll] at es1
  generalize SetTable.insertAt es i (hsh p w z, Value.ref x) = ess at ei es1 ⊢
  generalize L.take i ++ (x, z) :: L.drop i = L1 at pm ll f3 one1 ei
  have go : ∀ b : Bool, wpAny (model p w) A (do
      let t := if b then t1 else { t1 with plain := false }
      storeSet a ess t
      if !false && t.tooFull then setRelay a (SetTable.grown (es.size + 1))
      return true) Q E s := fun b => by
    obtain ⟨t2, et2⟩ : ∃ t2, t2 = (if b = true then t1 else { t1 with plain := false }) := ⟨_, rfl⟩
    have lay2 : TabOk t2 (hshs p w L1) := by rw [et2]; cases b; exact lay_plain f3 false; exact f3
    have em2 : t2.mask = t.mask := by rw [et2]; cases b <;> exact f4
    have el2 : t2.led = t.led := by rw [et2]; cases b <;> exact f5
    have ef2 : t2.tooFull = decide ((L.length + 1) * 5 ≥ t2.mask * 3) := by
      have : t1.tooFull = decide ((L.length + 1) * 5 ≥ t1.mask * 3) := by
        unfold SetTable.tooFull
        rw [f9, hshs_len]
      rw [et2]; cases b <;> exact this
    dsimp only; rw [← et2]
    refine wpAny_bind (wpAny_storeSet_of eo ed ?_ (by rw [es1, sizeLine_eq]; omega))
    have sb : Heap.SameBut a s.heap (s.heap.update a (Obj.putSet ess t2)) := Heap.SameBut.update ..
    have eo1 := store_at (es' := ess) (t' := t2) eo ed
    generalize s.heap.update a (Obj.putSet ess t2) = h1 at sb eo1 ⊢
    have tps1 : ∀ y ∈ L1, TupS p w h1 y.2 y.1 := fun y m => by
      rcases List.mem_cons.mp (pm.mem_iff.mp m) with rfl | m
      · exact tup_same hx eo ed sb
      · exact tup_same (R.tps y m) eo ed sb
    have ldg1 : w.params.followText "set-order" = true ∨ t2.led = true := by rw [el2]; exact R.ldg
    by_cases full : (L.length + 1) * 5 ≥ t2.mask * 3
    · refine wp_if_pos (by rw [ef2, decide_eq_true full]; rfl) ?_; refine wpAny_bind ?_; rw [el]
      have sz1 : t2.place.size = ess.size := by rw [lay2.sz, hshs_len, ll, es1]
      have to : ∀ M, SetTable.sizeAbove (SetTable.grown (L.length + 1)) - 1 = M → MaskOk M → SetTable.sizeAbove (SetTable.grown (L.length + 1)) ≤ 128 → (L.length + 1) * 5 < M * 3 → L.length + 1 ≤ t2.mask →
          wpAny (model p w) A (setRelay a (SetTable.grown (L.length + 1))) (fun _ s' => wpAny (model p w) A (pure true) Q E s') E { s with heap := h1 } := fun M m1 m2 m3 m4 m5 =>
        relay (s := { s with heap := h1 }) eo1 ⟨ex.1, ex.2.1, ex.2.2⟩ rfl ei sz1 lay2.dm (by rw [es1]; exact m5) one1 tps1 ldg1 (by rw [ll]; exact few) m1 m2 m3 (by rw [ll]; exact m4) fun h2 L2 e2 n2 t3 sb2 R2 pm2 =>
          wpAny_pure (fin true h2 L2 e2 n2 t3 (sb.trans sb2) R2 (fun q => absurd q nm) fun _ => pm2.trans pm)
      rw [em2] at full to
      rcases R.lay.mok with q | q | q
      · obtain q4 : L.length = 4 := by rw [q] at full rm; omega
        exact to 31 (by rw [q4, size_20]) (.inr (.inl rfl)) (by rw [q4, size_20]; decide) (by omega) (by omega)
      · obtain q4 : L.length = 18 := by rw [q] at full rm; omega
        exact to 127 (by rw [q4, size_76]) (.inr (.inr rfl)) (by rw [q4, size_76]; decide) (by omega) (by omega)
      · rw [q] at full
        omega
    · refine wp_if_neg (by rw [ef2, decide_eq_false full]; decide) ?_
      exact wpAny_pure (fin true h1 L1 ess (n + 1) t2 sb ⟨⟨_, eo1, ⟨ex.1, ex.2.1, ex.2.2⟩, rfl⟩, ei, lay2, one1, tps1, ldg1, by rw [ll]; omega, by rw [ll]; exact few⟩ (fun q => absurd q nm) fun _ => pm)
  by_cases plain : t1.plain = true
  · refine wp_if_pos plain ?_
    refine wpAny_bind (val_tup hx fun b => go b)
  · refine wp_if_neg plain ?_
    exact wpAny_bind (wpAny_pure (go true))
/-! ### how many unlike ones -/
/-- what stands in the set behind the first i items -/
structure Upto (ks : List At) (i : Nat) (L : List At) : Prop where
  from_ : ∀ y ∈ L, y ∈ ks.take i
  all : ∀ y ∈ ks.take i, y.2 ∈ L.map (·.2)
  le : L.length ≤ i
theorem Upto.next {ks L K : List At} {i : Nat} {x : At} (g : Upto ks i L) (e : ks[i]? = some x) (m : x.2 ∈ L.map (·.2) → K = L) (nm : x.2 ∉ L.map (·.2) → K.Perm (x :: L)) : Upto ks (i + 1) K := by
  have et : ks.take (i + 1) = ks.take i ++ [x] := by rw [List.take_add_one, e]; rfl
  by_cases q : x.2 ∈ L.map (·.2)
  · obtain rfl := m q
    refine ⟨fun y h => ?_, fun y h => ?_, Nat.le_succ_of_le g.le⟩
    · rw [et]; exact List.mem_append_left _ (g.from_ y h)
    · rw [et] at h
      rcases List.mem_append.mp h with h | h
      · exact g.all y h
      · rw [List.mem_singleton.mp h]; exact q
  · have pm := nm q
    refine ⟨fun y h => ?_, fun y h => ?_, ?_⟩
    · rw [et]
      rcases List.mem_cons.mp (pm.mem_iff.mp h) with rfl | h
      · exact List.mem_append_right _ (List.mem_singleton.mpr rfl)
      · exact List.mem_append_left _ (g.from_ y h)
    · rw [(pm.map (·.2)).mem_iff, List.map_cons]
      rw [et] at h
      rcases List.mem_append.mp h with h | h
      · exact List.mem_cons_of_mem _ (g.all y h)
      · rw [List.mem_singleton.mp h]; exact List.mem_cons_self
    · rw [pm.length_eq, List.length_cons]
      exact Nat.succ_le_succ g.le
theorem Holds.stay {h h' : Heap} (R : Holds p w h a L es n t) (ha : ∀ o, h.get? a = some o → h'.get? a = some o) (tp : ∀ y ∈ L, TupS p w h' y.2 y.1) : Holds p w h' a L es n t :=
  let ⟨o, eo, r⟩ := R.obj
  ⟨⟨o, ha o eo, r⟩, R.ent, R.lay, R.one, tp, R.ldg, R.rm, R.few⟩
abbrev newS (w : World) : Obj := { cls := .type "set", dict := none, data := .set #[] 0 (.fresh 0 0 (!w.params.followText "set-order")) }
theorem holds_new {h : Heap} (e : h.get? a = some (newS w)) : Holds p w h a [] #[] 0 (.fresh 0 0 (!w.params.followText "set-order")) where
  obj := ⟨_, e, ⟨rfl, rfl, rfl⟩, rfl⟩
  ent := rfl
  lay := ⟨List.Pairwise.nil, rfl, rfl, .inl rfl, fun x q => absurd q List.not_mem_nil, fun i h j q => by simp [hshs] at q⟩
  one := List.nodup_nil
  tps := fun y q => absurd q List.not_mem_nil
  ldg := by
    show _ ∨ (!w.params.followText "set-order") = true
    cases w.params.followText "set-order" <;> simp
  rm := by show 0 * 5 < 7 * 3; decide
  few := by show 0 < 64; decide
/-- the loop of set.update over such tuples -/
theorem put_all {I : Addr} {fp wr : List Addr} {G : Array GenState → Array GenState → Prop} {m : Nat} {Pv : Nat → Value → Prop} {St : Nat → Shared → Prop} {R : Result → Shared → Prop} (W : WalksS p w A.in1 I fp wr G m Pv St) (S : Addr) (out : S ∉ fp) (ks : List At) (em : m = ks.length)
    (few : ks.length < 64) (val : ∀ i v, Pv i v → ∃ y, ks[i]? = some y ∧ v = .ref y.1) (h0 : Heap) (tps : ∀ y ∈ ks, TupS p w h0 y.2 y.1) (nS : h0.get? S = none) (nw : ∀ b ∈ wr, h0.get? b = none) (room : A.in1.units < cLine) :
    ∀ (d i : Nat) (s : Shared), m - i = d → i ≤ m → St i s → (∀ b o, h0.get? b = some o → s.heap.get? b = some o) → (∃ L es n t, Holds p w s.heap S L es n t ∧ Upto ks i L) →
      (∀ s2 L es n t, Moved (S :: wr) G s s2 → Holds p w s2.heap S L es n t → Upto ks m L → (∀ b o, h0.get? b = some o → s2.heap.get? b = some o) → R (.ok (.ret .none)) s2) → codeAny (model p w) A (.builtin "set.update.loop" ⟨[.ref S, .ref I], []⟩) R s := by
  have out2 : S ∉ wr := fun q => out (W.sub _ q)
  have wide : ∀ b ∈ wr, b ∈ S :: wr := fun b q => List.mem_cons_of_mem _ q
  have on : ∀ {s s2 : Shared}, Moved wr G s s2 → (∀ b o, h0.get? b = some o → s.heap.get? b = some o) → ∀ b o, h0.get? b = some o → s2.heap.get? b = some o := fun mv keep b o e => mv.heap b o (fun q => by rw [nw b q] at e; cases e) (keep b o e)
  intro d
  induction d with
  | zero =>
    intro i s ed hi st keep ⟨L, es, n, t, R1, g⟩ fin
    obtain rfl : i = m := by omega
    refine codeAny_builtin F.entry_set_update_loop ?_; rw [Around.under_plainId F.plain_set_update_loop _]
    show wpAny _ A.in1 (pyNext (.ref I) >>= fun _ => _) _ _ s; refine wpAny_bind (W.done s _ _ st fun s2 mv => ?_)
    show wpAny _ A.in1 (ret Value.none) _ _ s2; have keep2 := on mv keep
    exact wpAny_pure (fin s2 L es n t (mv.mono wide) (R1.stay (fun o e => mv.heap S o out2 e) fun y q => tup_keep (tps y (List.mem_of_mem_take (g.from_ y q))) keep2) g keep2)
  | succ d ih =>
    intro i s ed hi st keep ⟨L, es, n, t, R1, g⟩ fin
    have lt : i < m := by omega
    refine codeAny_builtin F.entry_set_update_loop ?_; rw [Around.under_plainId F.plain_set_update_loop _]
    show wpAny _ A.in1 (pyNext (.ref I) >>= fun _ => _) _ _ s; refine wpAny_bind (W.item i s _ _ lt st fun v s2 pv st2 mv => ?_)
    obtain ⟨y, ey, rfl⟩ := val i v pv
    have keep2 := on mv keep
    have R2 : Holds p w s2.heap S L es n t := R1.stay (fun o e => mv.heap S o out2 e) fun u q => tup_keep (tps u (List.mem_of_mem_take (g.from_ u q))) keep2
    have hy : TupS p w s2.heap y.2 y.1 := tup_keep (tps y (List.mem_of_getElem? ey)) keep2
    show wpAny _ A.in1 (holding [Value.ref y.1] (setAdd S (.ref y.1)) >>= fun _ => _) _ _ s2
    refine wpAny_bind (wpAny_holding ?_); unfold setAdd; refine wpAny_holding (wpAny_bind (wpAny_pyHash_tuple room hy ?_))
    refine add (s := { s2 with toks := s2.toks + (y.2.length + 1) }) R2 hy room (by have := g.le; omega) fun b h3 L3 es3 n3 t3 sb R3 c1 c2 => ?_
    have keep3 : ∀ b o, h0.get? b = some o → h3.get? b = some o := fun b o e => (sb.2 b (fun q => by rw [q, nS] at e; cases e)).trans (keep2 b o e)
    refine wpAny_pure ⟨plainId_quiet F.plain_set_update_loop _, ih (i + 1) _ (by omega) lt (W.frame _ s2 _ _ st2 (Nat.le_add_right _ _) fun b hb o e => ?_) keep3 ⟨L3, es3, n3, t3, R3, g.next ey c1 c2⟩ fun s4 L4 es4 n4 t4 mv4 R4 g4 keep4 => ?_⟩
    · rw [sb.2 b (fun q : b = S => out (by rw [← q]; exact hb))] <;> exact e
    · refine fin s4 L4 es4 n4 t4 (Moved.trans W.gtrans ((mv.mono wide).then_heap (Nat.le_add_right _ _) fun b o nb e => ?_) mv4) R4 g4 keep4
      rw [sb.2 b (fun q : b = S => nb (by rw [q]; exact List.mem_cons_self))] <;> exact e
end
section
variable {p : Program} {w : World} {A : Around} {E : Value → Shared → Prop} {s : Shared}
set_option maxHeartbeats 8000000 in
/-- set(x), x a list of such tuples -/
theorem set_of_list {l : Addr} {its : Array Value} (ks : List At) {Q : Value → Shared → Prop} (calm : A.handled = none) (at_ : s.heap.IsList l its) (are : its.toList = ks.map fun y => Value.ref y.1) (tps : ∀ y ∈ ks, TupS p w s.heap y.2 y.1) (few : ks.length < 64) (room : A.units + 3 < cLine)
    (k : ∀ (g : Heap) (tk : Nat) L es n t, Holds p w g s.heap.objs.size L es n t → Upto ks ks.length L → (∀ b o, s.heap.get? b = some o → g.get? b = some o) → Q (.ref s.heap.objs.size) { s with heap := g, toks := tk }) : wpAny (model p w) A (call (.type "set") [.ref l]) Q E s := by
  obtain ⟨c0, c1, eMro⟩ := F.called_set.mro; have eMade := F.called_set.made; have eSub := F.called_set.sub
  refine wpAny_call (codeAny_of_tree ?_); show wpAny _ _ (callAny (.type "set") _) _ _ _
  refine wpAny_pure ⟨Code.quiet_builtin _ (by decide +kernel), codeAny_builtin F.entry_type_call ?_⟩; rw [Around.under_plain (weight_type_call_type "set" [.ref l] []) rfl]
  have e1 := F.called_set.notType; have e2 := F.called_set.canCreate; have e3 := F.typeCall_set_1 (.ref l)
  repeat (any_goals (first | assumption | wp_step))
  refine codeAny_mono (code_set_led1 (.ref l) (E := E) (Q₁ := fun o s₁ => o = .ref s.heap.objs.size ∧ s₁ = { s with heap := s.heap.push (newS w) }) ⟨rfl, rfl⟩) fun r s₁ er => ?_
  match r, er with
  | .error _, er => exact er
  | .ok .next, er => exact er.elim
  | .ok .brk, er => exact er.elim
  | .ok .cont, er => exact er.elim
  | .ok (.ret o), ⟨e5, e6⟩ =>
    subst e5 e6
    have eS : (s.heap.push (newS w)).get? s.heap.objs.size = some (newS w) := Heap.get?_push_size _ rfl
    have eT : Shared.TypeIs { s with heap := s.heap.push (newS w) } (.ref s.heap.objs.size) "set" := ⟨_, eS, rfl⟩
    have e7 := F.called_set.init.lookup; have e8 := F.called_set.init.bind (.ref s.heap.objs.size)
    repeat (any_goals (first | assumption | wp_step))
    refine codeAny_mono (codeAny_call_builtin (R := wants (fun r s₂ => r = .none ∧ ∃ g tk, s₂ = { s with heap := g, toks := tk } ∧ (∃ L es n t, Holds p w g s.heap.objs.size L es n t ∧ Upto ks ks.length L) ∧ ∀ b o, s.heap.get? b = some o → g.get? b = some o) E) F.called_set.init.plain F.entry_set_init (check_set_init_1 eT ?_)) fun r₂ s₂ er₂ => ?_
    · obtain ⟨⟨cls, odc, odt, osl⟩, here, ecl, m, edt⟩ := at_
      simp only at ecl edt; subst ecl edt
      have here2 : (s.heap.push (newS w)).get? l = some { cls := .type "list", dict := odc, data := .seq its m, slots := osl } := Heap.get?_push_of_some _ here
      have f1 := F.sub_list_set; have f2 := F.sub_list_frozenset; have f3 : (Value.type "list" == Value.type "dict") = false := by decide
      have its1 : (s.heap.push (newS w)).IsList l its := ⟨_, here2, rfl, m, rfl⟩
      unfold Builtin.«set.__init__» noKeywords Builtin.Frozenset.updateFrom
      generalize eIter : pyIter = It
      wp_walk
      subst eIter
      refine wpAny_pyIter_list its1 (wpAny_bind (wpAny_runValue ?_))
      have lt : l < s.heap.objs.size := Heap.lt_size here
      have calm3 : A.in1.in1.in1.handled = none := by simp [calm]
      have ps : (s.heap.push (newS w)).objs.size = s.heap.objs.size + 1 := Heap.size_push ..
      have n1 : l ≠ (s.heap.push (newS w)).objs.size := by rw [ps]; exact Nat.ne_of_lt (Nat.lt_succ_of_lt lt)
      have n2 : s.heap.objs.size ∉ [(s.heap.push (newS w)).objs.size, l] := by simp only [List.mem_cons, List.not_mem_nil, or_false, not_or, ps]; exact ⟨Nat.ne_of_lt (Nat.lt_succ_self _), Nat.ne_of_gt lt⟩
      have sz : its.size = ks.length := by rw [← Array.length_toList, are, List.length_map]
      have eS2 : ((s.heap.push (newS w)).push { cls := .type "list_iterator", data := .fields #[.ref l, .int 0 0] }).get? s.heap.objs.size = some (newS w) := Heap.get?_push_of_some _ eS
      have none_of : ∀ b, s.heap.objs.size ≤ b → s.heap.get? b = none := fun b hb => by
        cases q : s.heap.get? b with
        | none => rfl
        | some o => exact absurd (Heap.lt_size q) (Nat.not_lt.mpr hb)
      refine put_all ((Walks.list calm3 _ l n1 its).toS) s.heap.objs.size n2 ks sz few (fun i v ev => ?_) s.heap tps (none_of _ (Nat.le_refl _)) (fun b hb => none_of b (by rw [List.mem_singleton.mp hb, ps]; exact Nat.le_succ _)) room its.size 0 _ rfl (Nat.zero_le _)
        ⟨⟨_, Heap.get?_push_size _ rfl, rfl, rfl⟩, its1.push _⟩ (fun b o e => Heap.get?_push_of_some _ (Heap.get?_push_of_some _ e)) ⟨[], #[], 0, _, holds_new eS2, ⟨fun y q => absurd q List.not_mem_nil, fun y q => absurd q (by simp), Nat.le_refl _⟩⟩ fun s3 L3 es3 n3 t3 mv S3 g3 keep3 => ?_
      · have q : its.toList[i]? = some v := by rw [Array.getElem?_toList]; exact ev
        rw [are, List.getElem?_map] at q
        obtain ⟨y, ey, rfl⟩ := Option.map_eq_some_iff.mp q
        exact ⟨y, ey, rfl⟩
      rw [sz] at g3
      obtain ⟨h3, gs3, dr3, tk3, os3⟩ := s3
      obtain rfl : gs3 = s.gens := mv.gens; obtain rfl : dr3 = s.drawn := mv.drawn; obtain rfl : os3 = s.os := mv.os
      show wpAny _ _ _ _ _ _; refine wpAny_pure ?_
      show wpAny _ _ (ret Value.none) _ _ _; exact wpAny_pure ⟨rfl, h3, tk3, rfl, ⟨L3, es3, n3, t3, S3, g3⟩, keep3⟩
    · match r₂, er₂ with
      | .error _, er₂ => exact er₂
      | .ok .next, er₂ => exact er₂.elim
      | .ok .brk, er₂ => exact er₂.elim
      | .ok .cont, er₂ => exact er₂.elim
      | .ok (.ret _), ⟨e9, g, tk, e10, ⟨L9, es9, n9, t9, S9, g9⟩, k9⟩ =>
        subst e9 e10
        repeat (any_goals (first | assumption | wp_step))
        exact k _ _ _ _ _ _ S9 g9 k9

set_option maxHeartbeats 8000000 in
/-- set(x), x a tuple of such tuples -/
theorem set_of_tuple {l : Addr} {its : Array Value} (ks : List At) {Q : Value → Shared → Prop} (calm : A.handled = none) (at_ : s.heap.IsTuple l its) (are : its.toList = ks.map fun y => Value.ref y.1) (tps : ∀ y ∈ ks, TupS p w s.heap y.2 y.1) (few : ks.length < 64) (room : A.units + 3 < cLine)
    (k : ∀ (g : Heap) (tk : Nat) L es n t, Holds p w g s.heap.objs.size L es n t → Upto ks ks.length L → (∀ b o, s.heap.get? b = some o → g.get? b = some o) → Q (.ref s.heap.objs.size) { s with heap := g, toks := tk }) : wpAny (model p w) A (call (.type "set") [.ref l]) Q E s := by
  obtain ⟨c0, c1, eMro⟩ := F.called_set.mro; have eMade := F.called_set.made; have eSub := F.called_set.sub
  refine wpAny_call (codeAny_of_tree ?_); show wpAny _ _ (callAny (.type "set") _) _ _ _
  refine wpAny_pure ⟨Code.quiet_builtin _ (by decide +kernel), codeAny_builtin F.entry_type_call ?_⟩; rw [Around.under_plain (weight_type_call_type "set" [.ref l] []) rfl]
  have e1 := F.called_set.notType; have e2 := F.called_set.canCreate; have e3 := F.typeCall_set_1 (.ref l)
  repeat (any_goals (first | assumption | wp_step))
  refine codeAny_mono (code_set_led1 (.ref l) (E := E) (Q₁ := fun o s₁ => o = .ref s.heap.objs.size ∧ s₁ = { s with heap := s.heap.push (newS w) }) ⟨rfl, rfl⟩) fun r s₁ er => ?_
  match r, er with
  | .error _, er => exact er
  | .ok .next, er => exact er.elim
  | .ok .brk, er => exact er.elim
  | .ok .cont, er => exact er.elim
  | .ok (.ret o), ⟨e5, e6⟩ =>
    subst e5 e6
    have eS : (s.heap.push (newS w)).get? s.heap.objs.size = some (newS w) := Heap.get?_push_size _ rfl
    have eT : Shared.TypeIs { s with heap := s.heap.push (newS w) } (.ref s.heap.objs.size) "set" := ⟨_, eS, rfl⟩
    have e7 := F.called_set.init.lookup; have e8 := F.called_set.init.bind (.ref s.heap.objs.size)
    repeat (any_goals (first | assumption | wp_step))
    refine codeAny_mono (codeAny_call_builtin (R := wants (fun r s₂ => r = .none ∧ ∃ g tk, s₂ = { s with heap := g, toks := tk } ∧ (∃ L es n t, Holds p w g s.heap.objs.size L es n t ∧ Upto ks ks.length L) ∧ ∀ b o, s.heap.get? b = some o → g.get? b = some o) E) F.called_set.init.plain F.entry_set_init (check_set_init_1 eT ?_)) fun r₂ s₂ er₂ => ?_
    · obtain ⟨⟨cls, odc, odt, osl⟩, here, ecl, m, edt⟩ := at_
      simp only at ecl edt; subst ecl edt
      have here2 : (s.heap.push (newS w)).get? l = some { cls := .type "tuple", dict := odc, data := .seq its m, slots := osl } := Heap.get?_push_of_some _ here
      have f1 := F.sub_tuple_set; have f2 := F.sub_tuple_frozenset; have f3 : (Value.type "tuple" == Value.type "dict") = false := by decide
      have its1 : (s.heap.push (newS w)).IsTuple l its := ⟨_, here2, rfl, m, rfl⟩
      unfold Builtin.«set.__init__» noKeywords Builtin.Frozenset.updateFrom
      generalize eIter : pyIter = It
      wp_walk
      subst eIter
      refine wpAny_pyIter_tuple its1 (wpAny_bind (wpAny_runValue ?_))
      have lt : l < s.heap.objs.size := Heap.lt_size here
      have calm3 : A.in1.in1.in1.handled = none := by simp [calm]
      have ps : (s.heap.push (newS w)).objs.size = s.heap.objs.size + 1 := Heap.size_push ..
      have n1 : l ≠ (s.heap.push (newS w)).objs.size := by rw [ps]; exact Nat.ne_of_lt (Nat.lt_succ_of_lt lt)
      have n2 : s.heap.objs.size ∉ [(s.heap.push (newS w)).objs.size, l] := by simp only [List.mem_cons, List.not_mem_nil, or_false, not_or, ps]; exact ⟨Nat.ne_of_lt (Nat.lt_succ_self _), Nat.ne_of_gt lt⟩
      have sz : its.size = ks.length := by rw [← Array.length_toList, are, List.length_map]
      have eS2 : ((s.heap.push (newS w)).push { cls := .type "tuple_iterator", data := .fields #[.ref l, .int 0 0] }).get? s.heap.objs.size = some (newS w) := Heap.get?_push_of_some _ eS
      have none_of : ∀ b, s.heap.objs.size ≤ b → s.heap.get? b = none := fun b hb => by
        cases q : s.heap.get? b with
        | none => rfl
        | some o => exact absurd (Heap.lt_size q) (Nat.not_lt.mpr hb)
      refine put_all ((Walks.tuple calm3 _ l n1 its).toS) s.heap.objs.size n2 ks sz few (fun i v ev => ?_) s.heap tps (none_of _ (Nat.le_refl _)) (fun b hb => none_of b (by rw [List.mem_singleton.mp hb, ps]; exact Nat.le_succ _)) room its.size 0 _ rfl (Nat.zero_le _)
        ⟨⟨_, Heap.get?_push_size _ rfl, rfl, rfl⟩, its1.push _⟩ (fun b o e => Heap.get?_push_of_some _ (Heap.get?_push_of_some _ e)) ⟨[], #[], 0, _, holds_new eS2, ⟨fun y q => absurd q List.not_mem_nil, fun y q => absurd q (by simp), Nat.le_refl _⟩⟩ fun s3 L3 es3 n3 t3 mv S3 g3 keep3 => ?_
      · have q : its.toList[i]? = some v := by rw [Array.getElem?_toList]; exact ev
        rw [are, List.getElem?_map] at q
        obtain ⟨y, ey, rfl⟩ := Option.map_eq_some_iff.mp q
        exact ⟨y, ey, rfl⟩
      rw [sz] at g3
      obtain ⟨h3, gs3, dr3, tk3, os3⟩ := s3
      obtain rfl : gs3 = s.gens := mv.gens; obtain rfl : dr3 = s.drawn := mv.drawn; obtain rfl : os3 = s.os := mv.os
      show wpAny _ _ _ _ _ _; refine wpAny_pure ?_
      show wpAny _ _ (ret Value.none) _ _ _; exact wpAny_pure ⟨rfl, h3, tk3, rfl, ⟨L3, es3, n3, t3, S3, g3⟩, keep3⟩
    · match r₂, er₂ with
      | .error _, er₂ => exact er₂
      | .ok .next, er₂ => exact er₂.elim
      | .ok .brk, er₂ => exact er₂.elim
      | .ok .cont, er₂ => exact er₂.elim
      | .ok (.ret _), ⟨e9, g, tk, e10, ⟨L9, es9, n9, t9, S9, g9⟩, k9⟩ =>
        subst e9 e10
        repeat (any_goals (first | assumption | wp_step))
        exact k _ _ _ _ _ _ S9 g9 k9
end
end LkSu
namespace Lk
open PySem PySem.Spec PyProof.Rows L2
theorem strs_items {p : Program} {w : World} : ∀ {z : List Str} {us : List Value}, Vals (z.map V.str) us → ItemsAre (strKind p w) z us
  | [], _, .nil => .nil
  | x :: z, _, .cons r rs => by
    obtain ⟨t, rfl⟩ := r
    exact .cons (by simp [PySem.strKind, Value.isStrOf]) (strs_items rs)
theorem tupS_of {X : Cx} {pins : List (Addr × Obj)} {σ : L2.St} {H : Hp} {s : Shared} {b : Addr} {z : List Str} (I : Inv X pins σ H s) (h : SqT X.K H b (z.map V.str)) : LkSu.TupS X.prog X.w s.heap z b := by
  obtain ⟨its, r, ⟨o, eo, ec, m, ed⟩, _⟩ := I.tuple h
  exact ⟨o, _, m, eo, ec, ed, by simpa using strs_items r⟩
theorem refs_val : ∀ {ks : List LkSu.At} {us : List Value}, Vals (ks.map fun y => V.ref y.1) us → us = ks.map fun y => Value.ref y.1
  | [], _, .nil => rfl
  | y :: ks, _, .cons r rs => by
    rw [refs_val rs]
    cases (show _ = Value.ref y.1 from r)
    rfl
/-- n is the number of unlike ones among xs -/
def Unlike {α : Type} (xs : List α) (n : Nat) : Prop := ∃ M : List α, M.Nodup ∧ (∀ z, z ∈ M ↔ z ∈ xs) ∧ n = M.length
/-- len(set(x)), x a list or a tuple of tuples of texts -/
def tLenSetT (K : PySem.W.Frag) (ta : TE) : TE := fun σ H Q => ta σ H fun x H1 => ∃ (l : Addr) (ks : List (Addr × List Str)), x = .ref l ∧ Sq K H1 l (ks.map fun y => V.ref y.1) ∧ (∀ y ∈ ks, SqT K H1 y.1 (y.2.map V.str)) ∧ ks.length < 64 ∧ ∀ n : Nat, Unlike (ks.map (·.2)) n → Q (.int n) H1
theorem pe_lenSetT {X : Cx} {a : Expr} {ta : TE} {u1 u2 u3 pos : Pos} (hc : X.calm = true) (hu : X.A.units + 64 < cLine) (hg : Gl X "len") (hm : X.mg "len" = none) (hg2 : Gl X "set") (hm2 : X.mg "set" = none) (ha : PE X a ta)
    (na : starEach [a] X.env = (false, eval a X.env) :: starEach [] X.env := by rfl) : PE X (.Call (.Name "len" u1) [.Call (.Name "set" u2) [a] [] u3] [] pos) (tLenSetT X.K ta) := by
  refine ⟨fun pins s σ H Q I h => Call_ (ld_blt I hg hm boot_len (callWith_builtin1 (args_cons ?_ rfl) rfl rfl))⟩
  refine Call_ (ld_blt I hg2 hm2 boot_set (callWith_type1 (args_cons (thn (ha.run pins s σ H _ I h) fun v s1 ⟨x, H1, I1, r1, q1⟩ => args_nil ?_) na) na rfl))
  obtain ⟨l, ks, rfl, sq, tps, few, q1⟩ := q1
  cases r1
  have tp : ∀ y ∈ ks, LkSu.TupS X.prog X.w s1.heap y.2 y.1 := fun y m => tupS_of I1 (tps y m)
  have go : ∀ (g : Heap) (tk : Nat) L es n t, LkSu.Holds X.prog X.w g s1.heap.objs.size L es n t → LkSu.Upto ks ks.length L → (∀ b o, s1.heap.get? b = some o → g.get? b = some o) →
      wpAny (model X.prog X.w) X.A (spliced (backTo pos (starEach [] X.env))) (fun vs s₂ => wpAny (model X.prog X.w) X.A (call (.builtin "len") (Value.ref s1.heap.objs.size :: vs)) (EP X pins σ Q) X.xe s₂) X.xe { s1 with heap := g, toks := tk } := fun g tk L es n t has up keep => by
    refine args_nil ?_
    obtain ⟨o, eo, ex, ed⟩ := has.obj
    have I2 : Inv X pins σ H1 { s1 with heap := g, toks := tk } := I1.kept fun b o e => keep b o e
    have le := LkSu.ents_size has.ent
    have fw := has.few
    refine call_len_set (s := { s1 with heap := g, toks := tk }) eo ex ed (LkSu.Holds.fit (s := { s1 with heap := g, toks := tk }) has) (by rw [le]; omega) ⟨.int es.size, H1, I2.tok _, ⟨_, rfl⟩, ?_⟩
    rw [le]
    have tk2 : ks.take ks.length = ks := List.take_length
    refine q1 _ ⟨L.map (·.2), has.one, fun z => ⟨fun m => ?_, fun m => ?_⟩, by rw [List.length_map]⟩
    · obtain ⟨y, my, rfl⟩ := List.mem_map.mp m
      have := up.from_ y my
      rw [tk2] at this
      exact List.mem_map.mpr ⟨y, this, rfl⟩
    · obtain ⟨y, my, rfl⟩ := List.mem_map.mp m
      exact up.all y (by rw [tk2]; exact my)
  rcases sq with sq | sq
  · obtain ⟨its, r, pl, _⟩ := I1.list sq
    exact LkSu.set_of_list ks (I1.ok.hd hc) pl.isList (by simpa using refs_val r) tp few (by omega) go
  · obtain ⟨its, r, pl, _⟩ := I1.tuple sq
    exact LkSu.set_of_tuple ks (I1.ok.hd hc) pl (by simpa using refs_val r) tp few (by omega) go
theorem Unlike.uniq {α : Type} [DecidableEq α] {xs : List α} {n m : Nat} (h : Unlike xs n) (g : Unlike xs m) : n = m := by
  obtain ⟨M, h1, h2, rfl⟩ := h
  obtain ⟨N, g1, g2, rfl⟩ := g
  exact ((List.perm_ext_iff_of_nodup h1 g1).mpr fun z => (h2 z).trans (g2 z).symm).length_eq
theorem erase_sub {α : Type} [DecidableEq α] {x : α} {xs M : List α} (h : M.Nodup) (g : ∀ z ∈ M, z ∈ x :: xs) : ∀ z ∈ M.erase x, z ∈ xs := fun z m => by
  have := (h.mem_erase_iff).mp m
  exact (List.mem_cons.mp (g z this.2)).resolve_left this.1
theorem erase_len {α : Type} [DecidableEq α] (x : α) (M : List α) : M.length ≤ (M.erase x).length + 1 := by
  rw [List.length_erase]
  split <;> omega
theorem pigeon {α : Type} [DecidableEq α] : ∀ {xs M : List α}, M.Nodup → (∀ z ∈ M, z ∈ xs) → M.length ≤ xs.length
  | [], [], _, _ => Nat.le_refl _
  | [], z :: _, _, g => absurd (g z List.mem_cons_self) List.not_mem_nil
  | x :: xs, M, h, g => by
    have := pigeon (h.erase x) (erase_sub h g)
    have := erase_len x M
    rw [List.length_cons]
    omega
theorem pigeon_nodup {α : Type} [DecidableEq α] : ∀ {xs M : List α}, M.Nodup → (∀ z ∈ M, z ∈ xs) → xs.length ≤ M.length → xs.Nodup
  | [], _, _, _, _ => List.nodup_nil
  | x :: xs, M, h, g, l => by
    have e := erase_len x M
    rw [List.length_cons] at l
    refine List.nodup_cons.mpr ⟨fun m => ?_, pigeon_nodup (h.erase x) (erase_sub h g) (by omega)⟩
    have := pigeon h fun z q => by
      rcases List.mem_cons.mp (g z q) with rfl | r
      · exact m
      · exact r
    omega
theorem Unlike.nodup {α : Type} [DecidableEq α] {xs : List α} {n : Nat} (h : Unlike xs n) : n = xs.length ↔ xs.Nodup := by
  constructor
  · intro e
    obtain ⟨M, h1, h2, rfl⟩ := h
    exact pigeon_nodup h1 (fun z m => (h2 z).mp m) (by omega)
  · intro nd
    exact h.uniq ⟨xs, nd, fun _ => Iff.rfl, rfl⟩
end Lk
set_option Elab.async false
set_option linter.all false
set_option maxRecDepth 100000
set_option maxHeartbeats 1500000
set_option pp.maxSteps 1200
set_option pp.deepTerms false
namespace K6
open PySem PySem.Spec PyProof.Rows L2 Lk
abbrev sAreLots : Stmt := top 21
abbrev sIsFam : Stmt := top 34
abbrev sRefFam : Stmt := top 35
theorem all_over {α : Type} {K : PySem.W.Frag} {J : It} {G : Hp → Prop} {vs0 : List V} (w : Walk J vs0.length G (YAt vs0)) {g : TG} {te : TE} {vs : List Nat} {σ : L2.St} {H1 : Hp} {R : VK} (xs : List α) (e : α → V) (q : α → Bool)
    (hv : vs0 = xs.map e) (few : xs.length ≤ 100000) (hG : ∀ H, Same H1 H → G H)
    (hs : ∀ (i : Nat) b H (R' : VK), xs[i]? = some b → Same H1 H → (∀ H4, Same H H4 → R' (.bl (q b)) H4) → g (e b) (wipe σ vs) H fun σ2 H2 => wipe σ2 vs = wipe σ vs ∧ te σ2 H2 R')
    (hd : ∀ H, Same H1 H → R (.bl (xs.all q)) H) : LcR J g tYes te vs σ H1 fun x H2 => tNil σ H2 fun xs H3 => rAll K (x :: xs) H3 R := by
  refine lc_over (Q := fun x H2 => rAll K [x] H2 R) w xs e (fun x => some (.bl (q x))) hv few hG (fun i b H R' Rn hb s k1 k2 => ?_) fun D H nD s ed => ?_
  · have z := hs i b H R' hb s fun H4 s4 => k1 H4 _ rfl s4
    have ty : (fun (σ2 : L2.St) H2 => wipe σ2 vs = wipe σ vs ∧ tYes σ2 H2 fun c H3 => if c = true then te σ2 H3 R' else Rn H3) = (fun σ2 H2 => wipe σ2 vs = wipe σ vs ∧ te σ2 H2 R') := by
      funext σ2 H2
      exact congrArg (And _) (tYes_if σ2 H2 (fun H3 => te σ2 H3 _) _)
    rw [ty]
    exact z
  · rw [fm_bl] at ed
    refine ⟨D, _, rfl, SqL.of ed, ?_⟩
    have : (xs.map q).all id = xs.all q := by simp [List.all_map]
    rw [this]
    exact hd H s
/-- a tuple of lots, each at its own address -/
def FamAt (H : Hp) (t : Addr) (rows : List (List Str)) : Prop := ∃ ts, H t = some (.tup ts) ∧ Paired (RelT H) ts rows
theorem FamAt.keep {H H' : Hp} {t : Addr} {rows : List (List Str)} (h : FamAt H t rows) (k : Keep H H') : FamAt H' t rows := by
  obtain ⟨ts, e, p⟩ := h
  exact ⟨ts, k _ _ e (fun _ z => by cases z), rows_keep p k⟩
theorem FamAt.same {H H' : Hp} {t : Addr} {rows : List (List Str)} (h : FamAt H t rows) (s : Same H H') : FamAt H' t rows := h.keep (.of s)
theorem CircAt.keep {H H' : Hp} {C c : Addr} {zs : List Str} (h : CircAt H C c zs) (k : Keep H H') : CircAt H' C c zs := by
  obtain ⟨dx, nm, e, t⟩ := h
  exact ⟨dx, nm, k _ _ e fun _ z => (by cases z), t.keep k⟩
theorem CircAt.same' {H H' : Hp} {C c : Addr} {zs : List Str} (h : CircAt H C c zs) (s : Same H H') : CircAt H' C c zs := h.keep (.of s)
theorem rows_addrF {H : Hp} : ∀ {us : List V} {rows : List (List Str)}, Paired (RelT H) us rows → ∃ zs : List (Addr × List Str), us = (zs.map fun y => V.ref y.1) ∧ zs.map (·.2) = rows ∧ ∀ y ∈ zs, H y.1 = some (.tup (y.2.map V.str))
  | _, _, .nil => ⟨[], rfl, rfl, fun _ h => by cases h⟩
  | _, r :: _, .cons ⟨t, e1, e2⟩ p => by
    obtain ⟨zs, h1, h2, h3⟩ := rows_addrF p
    refine ⟨(t, r) :: zs, by rw [e1, h1]; rfl, by rw [← h2]; rfl, fun y hy => ?_⟩
    rcases List.mem_cons.mp hy with rfl | hy
    · exact e2
    · exact h3 y hy
theorem nice_rows {zs : List Str} (nk : NmOk zs) {rows : List (List Str)} (sub : ∀ r ∈ rows, r.Sublist zs) (l64 : rows.length ≤ 64) : Nice (64 * (6 * (8 + 1) + 1)) 2 (.tuple (rows.map fun r => PyData.tuple (strsD r))) := Nice.tup (fun d hd => by
  obtain ⟨z, hz, rfl⟩ := List.mem_map.mp hd
  exact nice_lot nk (sub z hz)) (by rw [List.length_map]; exact l64)
section
variable {P : Program} {w : World} {K : PySem.W.Frag} {mg : Str → Option Value} {base : Heap} {f : Addr} {fd : FuncData}
/-! ### first_within, has_one of a tuple -/
def spFirstT (K : PySem.W.Frag) : Sp := fun vs H Q _ => ∃ (l t : Addr) (rows : List (List Str)) (ys : List Str), vs = [.ref l, .ref t] ∧ FamAt H l rows ∧ rows.length ≤ 100 ∧ (∀ r ∈ rows, r.length ≤ 6) ∧ SqT K H t (ys.map V.str) ∧
  (hasB rows ys = false → ∀ H', Same H H' → Q .non H') ∧ ∀ (i : Nat) (r : List Str) H', rows[i]? = some r → inB r ys = true → Same H H' → Q (.int (i : Int)) H'
theorem ok_firstT {f1 : Addr} {fd1 : FuncData} (F : Fun K "first_within" "first_within" sFirst f fd) (T : Bl mg)
    (G1 : FnOk P w K mg base CX0 1 f1 fd1 ["lot", "other"] (spWithin K)) (a1 : At K mg "is_within" f1 fd1 ["lot", "other"]) :
    FnOk P w K mg base CX0 2 f fd ["some", "lot"] (spFirstT K) := by
  refine F.ok scFirst (fun vs H Q E h => ?_) (fun cdv A outer s H vs Q E hr h => ?_)
  · obtain ⟨l, t, rows, ys, rfl, _⟩ := h
    rfl
  · obtain ⟨l, t, rows, ys, rfl, ⟨ts, el, pr⟩, rl, r6, et, none, some⟩ := h
    have nd := scFirst.nd
    refine ⟨_, pss_cons (ps_for PassesOwn.never rfl (pi_enumTp (by rfl) T.enum (pa_cons (pv 0) pa_nil)) (pg_tup rfl (pgs_cons (pg_name (i := 2) nd rfl (.inl rfl)) (pgs_cons (pg_name (i := 3) nd rfl (.inl rfl)) pgs_nil)))
          (pss_one (ps_if (pt_val (pe_call G1 hr (by rfl) a1.m a1.kp a1.b .nil pass0 (pa_cons (pv 3) (pa_cons (pv 1) pa_nil)))) (pss_one (ps_ret (pv 2))) pss_nil)))
        (pss_one (ps_ret pe_non)), ?_⟩
    have tl : ts.length = rows.length := paired_len pr
    refine ⟨_, rfl, l, _, rfl, SqT.of el, for_it (walk_enumTp (xs := ts)) (fun i σ H' => ∃ u v, σ = [Option.some (.ref l), Option.some (.ref t), u, v] ∧ Same H H' ∧ hasB (rows.take i) ys = false) ⟨Option.none, Option.none, rfl, Same.refl _, rfl⟩ (fun i σ H' _ ⟨_, _, _, s', _⟩ => SqT.of (s' _ _ el)) ?_ ?_⟩
    · rintro i x σ H2 H3 hi ⟨u, v, rfl, s2, hf⟩ ⟨t2, a1', a2, rfl, nt, rfl, e1, e2⟩
      obtain rfl := Option.some.inj e1
      obtain ⟨row, hrow⟩ : ∃ row, rows[i]? = Option.some row := ⟨_, List.getElem?_eq_getElem (by rw [← tl]; exact (List.getElem?_eq_some_iff.mp e2).1)⟩
      obtain ⟨v2, hv2, p, rfl, ep⟩ := paired_get pr hrow
      obtain rfl : V.ref p = a2 := Option.some.inj (hv2.symm.trans e2)
      have s3 : Same H (upd H2 t2 (.tup [.int (i : Nat), .ref p])) := s2.trans (same_new nt)
      refine ⟨t2, _, rfl, SqT.of upd_same, rfl, _, _, rfl, _, _, rfl, rfl, ?_⟩
      have r6' := r6 row (List.mem_of_getElem? hrow)
      refine ⟨_, rfl, _, rfl, p, t, row, ys, rfl, .inr (SqT.of (s3 _ _ ep)), .inr (sqT_same s3 et), by omega, fun H4 s4 => ⟨_, rfl, ?_⟩⟩
      have tk : hasB (rows.take (i + 1)) ys = inB row ys := by
        unfold hasB at hf ⊢
        rw [List.take_add_one, hrow, Option.toList_some, List.any_append, hf]
        simp [inB]
      cases hb : inB row ys with
      | true => exact iteA hb ⟨_, rfl, some i row _ hrow hb (s3.trans s4)⟩
      | false => exact iteB hb ⟨_, _, rfl, s3.trans s4, by rw [tk, hb]⟩
    · rintro σ H2 ⟨u, v, rfl, s2, hf⟩
      rw [tl, List.take_length] at hf
      exact none hf _ s2
def spHasOneT (K : PySem.W.Frag) : Sp := fun vs H Q _ => ∃ (l t : Addr) (rows : List (List Str)) (ys : List Str), vs = [.ref l, .ref t] ∧ FamAt H l rows ∧ rows.length ≤ 100 ∧ (∀ r ∈ rows, r.length ≤ 6) ∧ SqT K H t (ys.map V.str) ∧
  ∀ H', Same H H' → Q (.bl (hasB rows ys)) H'
theorem ok_hasOneT {f1 : Addr} {fd1 : FuncData} (F : Fun K "has_one" "has_one" sHasOne f fd)
    (G1 : FnOk P w K mg base CX0 2 f1 fd1 ["some", "lot"] (spFirstT K)) (a1 : At K mg "first_within" f1 fd1 ["some", "lot"]) :
    FnOk P w K mg base CX0 3 f fd ["some", "lot"] (spHasOneT K) := by
  refine F.ok scHasOne (fun vs H Q E h => ?_) (fun cdv A outer s H vs Q E hr h => ?_)
  · obtain ⟨l, t, rows, ys, rfl, _⟩ := h
    rfl
  · obtain ⟨l, t, rows, ys, rfl, el, rl, r6, et, k⟩ := h
    refine ⟨_, pss_one (ps_ret (pe_cmp (pc_notN (pe_call G1 hr (by rfl) a1.m a1.kp a1.b .nil pass0 (pa_cons (pv 0) (pa_cons (pv 1) pa_nil)))))), ?_⟩
    refine ⟨_, rfl, _, rfl, l, t, rows, ys, rfl, el, rl, r6, et, fun hb H' s => ?_, fun i r H' hr' hi s => ?_⟩
    · have := k H' s
      rw [hb] at this
      exact this
    · have := k H' s
      rw [hasB_iff.mpr ⟨r, List.mem_of_getElem? hr', hi⟩] at this
      exact this
/-! ### are_lots -/
def spAreLots (C : Addr) : Sp := fun vs H Q _ => ∃ (c t : Addr) (zs : List Str) (rows : List (List Str)), vs = [.ref c, .ref t] ∧ CircAt H C c zs ∧ NmOk zs ∧ FamAt H t rows ∧ (∀ r ∈ rows, r.Sublist zs) ∧ rows ≠ [] ∧ rows.length < 64 ∧ rows.Nodup ∧ ∀ H', Same H H' → Q (.bl true) H'
theorem scAreLots : FnScope ["circle", "value", "row"] ["circle", "value"] (defScope sAreLots) := ⟨rfl, rfl, rfl, by decide +kernel, rfl, by decide +kernel, by decide +kernel⟩
theorem ok_areLots {C f1 : Addr} {fd1 : FuncData} (F : Fun K "are_lots" "are_lots" sAreLots f fd) (T : Bl mg) (Cc : Cn mg)
    (G1 : FnOk P w K mg base CX0 1 f1 fd1 ["circle", "value"] (spIsLot C)) (a1 : At K mg "is_lot" f1 fd1 ["circle", "value"]) :
    FnOk P w K mg base CX0 2 f fd ["circle", "value"] (spAreLots C) := by
  refine F.ok scAreLots (fun vs H Q E h => ?_) (fun cdv A outer s H vs Q E hr h => ?_)
  · obtain ⟨c, t, zs, rows, rfl, _⟩ := h
    rfl
  · obtain ⟨c, t, zs, rows, rfl, ca, nk, ⟨ts, et, pr⟩, sub, ne, l64, nod, k⟩ := h
    have nd := scAreLots.nd
    have hu64 := room64 hr
    refine ⟨_, pss_cons (ps_if (PW.pt (pw_or (pt_not (pt_val (pe_callB call_isi (by rfl) T.isin boot_isinstance (pa_cons (pv 1) (pa_cons (pe_bltn (v := .ty "tuple") (by rfl) Cc.tuple rfl rfl) pa_nil)))))
          (pw_or1 (pt_cmpR op_eq (pe_callB call_len_seq (by rfl) T.len PySem.boot_len (pa_cons (pv 1) pa_nil)) pe_int (nomark _))))) pss_no pss_nil)
      (pss_one (ps_ret (pe_and (pe_callB (cr_all rfl) (by rfl) T.all boot_all (pa_cons (pe_lc (own := [("row", 2)]) (g := gName 2) (tt := tYes) (te := tCall (spIsLot C) [] E0 (tCons (tVar 0) (tCons (tVar 2) tNil))) rfl nd (pi_tup (pv 1))
            (blkOk_by (N := ["circle", "value", "row"]) (sc := defScope sAreLots) (by decide +kernel)) (fun _ _ _ _ _ => pg_name (i := 2) nd rfl (.inl rfl)) (fun _ _ _ _ _ => pts_nil)
            (fun _ _ _ _ _ => pe_call G1 hr (by rfl) a1.m a1.kp a1.b .nil pass0 (pa_cons (pv 0) (pa_cons (pv 2) pa_nil)))) pa_nil))
        (pe_one (pe_cmpR op_eq (pe_lenSetT rfl hu64 (by rfl) T.len (by rfl) Cc.set (pv 1)) (pe_callB call_len_seq (by rfl) T.len PySem.boot_len (pa_cons (pv 1) pa_nil)) (nomark _)))))), ?_⟩
    have tl : ts.length = rows.length := paired_len pr
    refine ⟨_, rfl, _, _, _, _, true, rfl, .ty _, .base (.tup et), by rfl, _, rfl, iteB rfl ?_⟩
    refine ⟨_, rfl, t, _, rfl, .inr (SqT.of et), rfl, _, rfl, iteB (decide_eq_false fun z => ne ?_) ?_⟩
    · have := V.int.inj z
      rw [tl] at this
      exact List.length_eq_zero_iff.mp (by omega)
    obtain ⟨ks, rfl, rfl, tps⟩ := rows_addrF pr
    have kl : ks.length < 64 := by rw [List.length_map] at l64; exact l64
    refine ⟨_, rfl, t, rfl, ⟨_, SqT.of et⟩, all_over (walk_tup (a := t) (xs := ks.map fun y => V.ref y.1)) ks (fun y => V.ref y.1) (fun _ => true) rfl (by omega) (fun H s => sqT_same s (SqT.of et)) ?_ ?_⟩
    · rintro i y H2 R hy s2 kk
      have hy' := List.mem_of_getElem? hy
      exact ⟨rfl, _, rfl, _, rfl, c, y.1, zs, y.2, rfl, ca.same' s2, .inl (s2 _ _ (tps y hy')), sub y.2 (List.mem_map.mpr ⟨y, hy', rfl⟩), nk, fun H3 s3 => kk _ s3⟩
    · intro H2 s2
      rw [show (ks.all fun _ => true) = true from List.all_eq_true.mpr fun _ _ => rfl]
      refine ⟨_, rfl, iteT ?_⟩
      refine ⟨_, rfl, t, ks, rfl, .inr (SqT.of (s2 _ _ et)), fun y hy => SqT.of (s2 _ _ (tps y hy)), kl, fun n un => ?_⟩
      refine ⟨_, rfl, t, _, rfl, .inr (SqT.of (s2 _ _ et)), rfl, ?_⟩
      rw [un.nodup.mpr nod, List.length_map, List.length_map, decide_eq_true rfl]
      exact k _ s2
end
end K6
set_option Elab.async false
set_option linter.all false
set_option maxRecDepth 100000
set_option maxHeartbeats 1500000
set_option pp.maxSteps 1200
set_option pp.deepTerms false
namespace K6
open PySem PySem.Spec PyProof.Rows L2 Lk
section
variable {P : Program} {w : World} {K : PySem.W.Frag} {mg : Str → Option Value} {base : Heap} {f : Addr} {fd : FuncData}
def spLeastG (C : Addr) : Sp := fun vs H Q _ => ∃ (c l : Addr) (zs : List Str) (ts : List V) (sel : List (List Str)), vs = [.ref c, .ref l] ∧ CircAt H C c zs ∧ NmOk zs ∧ zs.length ≤ 6 ∧ H l = some (.lst ts) ∧ Paired (RelT H) ts sel ∧ (∀ r ∈ sel, r.Sublist zs) ∧
  ∀ q us rws H', Same H H' → H' q = some (.tup us) → Paired (RelT H') us (leastF (fun r => decide (r ∈ sel)) rws) → LotsOk zs rws → Q (.ref q) H'
theorem ok_leastG {C f1 f2 : Addr} {fd1 fd2 : FuncData} (F : Fun K "least_of" "least_of" sLeast f fd) (T : Bl mg) (Cc : Cn mg)
    (G1 : FnOk P w K mg base CX0 3 f1 fd1 ["circle"] (spLots C)) (a1 : At K mg "lots" f1 fd1 ["circle"])
    (G2 : FnOk P w K mg base CX0 3 f2 fd2 ["some", "lot"] spHasOne) (a2 : At K mg "has_one" f2 fd2 ["some", "lot"]) :
    FnOk P w K mg base CX0 4 f fd ["circle", "some"] (spLeastG C) := by
  refine F.ok scLeast (fun vs H Q E h => ?_) (fun cdv A outer s H vs Q E hr h => ?_)
  · obtain ⟨c, l, zs, ts, sel, rfl, _⟩ := h
    rfl
  · obtain ⟨c, l, zs, ts, sel, rfl, ca, nk, z6, el, pr, hsub, k⟩ := h
    have nd := scLeast.nd
    refine ⟨_, pss_cons (ps_set (i := 2) nd rfl (.inl rfl) (pe_lst pa_nil))
      (pss_cons (ps_for PassesOwn.never rfl (pi_tup (pe_call G1 hr (by rfl) a1.m a1.kp a1.b .nil pass0 (pa_cons (pv 0) pa_nil))) (pg_name (i := 3) nd rfl (.inl rfl))
          (pss_one (ps_if (PW.pt (pw_and (pt_cmpR (op_inD (room65 hr)) (pv 3) (pv 1) rfl) (pw_and1 (pt_not (pt_val (pe_call G2 hr (by rfl) a2.m a2.kp a2.b .nil pass0 (pa_cons (pv 2) (pa_cons (pv 3) pa_nil))))))))
            (pss_one (ps_expr (pe_bm PySem.F.plainAttrs_list PySem.F.slot_list_append PySem.F.type_list_append mt_append (pv 2) (pa_cons (pv 3) pa_nil)))) pss_nil)))
      (pss_one (ps_ret (pe_tupleOf (by rfl) Cc.tuple (pv 2))))), ?_⟩
    refine ⟨few_ok rfl, fun D nD => ?_⟩
    have s1 : Same H (upd H D (.lst [])) := same_new nD
    have eD0 := upd_same (H := H) (a := D) (o := HO.lst [])
    generalize upd H D (.lst []) = H1 at s1 eD0 ⊢
    have ca1 : CircAt H1 C c zs := by
      obtain ⟨dx, nm, e1, e2⟩ := ca
      exact ⟨dx, nm, s1 _ _ e1, e2.same s1⟩
    refine ⟨_, rfl, c, zs, rfl, ca1, z6, fun r us rws H2 s2 er pu lo => ?_⟩
    have eD2 := s2 _ _ eD0
    have s12 := s1.trans s2
    have rDD : r ≠ D := fun z => by rw [z, eD2] at er; cases er
    have rsub : ∀ x ∈ rws, x.Sublist zs := fun x hx => lots_sub lo hx
    have rl := lots_64 lo z6
    have ul : us.length = rws.length := paired_len pu
    have far : ∀ {H3 : Hp}, KeepB D H2 H3 → Same H H3 := fun kb b o q => kb _ _ (ne_of_none q nD) (s12 _ _ q)
    refine ⟨r, rfl, ⟨_, SqT.of er⟩, for_tup (xs := us) (fun i σ H3 => ∃ (u : Option V) (ks : List V), σ = [some (.ref c), some (.ref l), some (.ref D), u] ∧ H3 D = some (.lst ks) ∧ Paired (RelT H3) ks ((rws.take i).foldl (stepF fun x => decide (x ∈ sel)) []) ∧
      (∀ x ∈ (rws.take i).foldl (stepF fun x => decide (x ∈ sel)) [], x.Sublist zs) ∧ ((rws.take i).foldl (stepF fun x => decide (x ∈ sel)) []).length ≤ i ∧ KeepB D H2 H3) ?_ ?_ ?_ ?_⟩
    · exact ⟨none, [], rfl, eD2, .nil, (fun _ h => by cases h), Nat.le_refl _, fun _ _ _ q => q⟩
    · rintro i σ H3 _ ⟨_, _, _, _, _, _, _, kb⟩
      exact SqT.of (kb _ _ rDD er)
    · rintro i y σ H3 hy ⟨u, ks, rfl, eD, pk, ksub, kl, kb⟩
      obtain ⟨row, hrow⟩ : ∃ row, rws[i]? = some row := ⟨_, List.getElem?_eq_getElem (by rw [← ul]; exact (List.getElem?_eq_some_iff.mp hy).1)⟩
      obtain ⟨v2, hv2, p, rfl, ep⟩ := paired_get pu hrow
      obtain rfl : V.ref p = y := Option.some.inj (hv2.symm.trans hy)
      have i64 : i < 64 := by have := (List.getElem?_eq_some_iff.mp hrow).1; omega
      have pD : p ≠ D := fun z => by rw [z, eD2] at ep; cases ep
      have ep3 := kb _ _ pD ep
      have rs := rsub row (List.mem_of_getElem? hrow)
      obtain ⟨kept, hkept⟩ : ∃ kept, kept = (rws.take i).foldl (stepF fun x => decide (x ∈ sel)) [] := ⟨_, rfl⟩
      have tk : (rws.take (i + 1)).foldl (stepF fun x => decide (x ∈ sel)) [] = stepF (fun x => decide (x ∈ sel)) kept row := by
        rw [List.take_add_one, hrow, Option.toList_some, List.foldl_append, hkept]
        rfl
      rw [← hkept] at pk ksub kl
      have sH3 := far kb
      have pr3 := rows_keep pr (.of sH3)
      have nr := nice_lot nk rs
      refine ⟨_, rfl, _, rfl, .tuple (strsD row), sel.map fun z => .tuple (strsD z), .tup (SqT.of ep3) (dp_strs _), .lst (SqL.of (sH3 _ _ el)) (dp_rows pr3), nr.shaped (by decide), ?_, _, rfl, ?_⟩
      · exact (Nice.lst (c := 6 * (8 + 1)) (k := 1) (m := sel.length) (fun d hd => by
          obtain ⟨z, hz, rfl⟩ := List.mem_map.mp hd
          exact nice_lot nk (hsub z hz)) (by rw [List.length_map]; exact Nat.le_refl _)).shaped (by decide)
      rw [in_rows]
      by_cases hin : row ∈ sel
      · rw [decide_eq_true hin]
        refine iteT ?_
        have k6' : ∀ x ∈ kept, x.length ≤ 6 := fun x hx => Nat.le_trans (ksub x hx).length_le z6
        refine ⟨_, rfl, _, rfl, D, p, ks, kept, row, rfl, eD, pk, by omega, k6', ep3, fun H4 s4 => ⟨_, rfl, ?_⟩⟩
        have eD4 := s4 _ _ eD
        have kb4 : KeepB D H2 H4 := fun b o nb q => s4 _ _ (kb b o nb q)
        have pk4 := rows_keep pk (.of s4)
        have st : stepF (fun x => decide (x ∈ sel)) kept row = if (!hasB kept row) = true then kept ++ [row] else kept := by
          unfold stepF hasB
          rw [show (fun x => decide (x ∈ sel)) row = true from decide_eq_true hin, Bool.true_and]
        cases hb : hasB kept row with
        | true =>
          refine iteB rfl ⟨_, ks, rfl, eD4, ?_, ?_, ?_, kb4⟩
          · rw [tk, st, hb]; exact pk4
          · rw [tk, st, hb]; exact ksub
          · rw [tk, st, hb]
            show kept.length ≤ _
            omega
        | false =>
          refine iteT ?_
          have ksl : ks.length = kept.length := paired_len pk
          refine ⟨_, rfl, .inl ⟨rfl, _, SqL.of eD4⟩, _, rfl, D, _, _, rfl, rfl, eD4, by rw [sizeLine_eq]; omega, ?_⟩
          have kp : Keep H4 (upd H4 D (.lst (ks ++ [.ref p]))) := .upd eD4
          refine ⟨_, ks ++ [.ref p], rfl, upd_same, ?_, ?_, ?_, fun b o nb q => by rw [upd_ne nb]; exact kb4 b o nb q⟩
          · rw [tk, st, hb]
            exact Paired.add (rows_keep pk4 kp) ⟨p, rfl, kp _ _ (s4 _ _ ep3) fun _ z => by cases z⟩
          · rw [tk, st, hb]
            intro x hx
            rcases List.mem_append.mp hx with hx | hx
            · exact ksub x hx
            · rw [List.mem_singleton.mp hx]; exact rs
          · rw [tk, st, hb]
            show (kept ++ [row]).length ≤ _
            rw [List.length_append]
            show kept.length + 1 ≤ _
            omega
      · rw [decide_eq_false hin]
        have st : stepF (fun x => decide (x ∈ sel)) kept row = kept := by unfold stepF; rw [show (fun x => decide (x ∈ sel)) row = false from decide_eq_false hin]; rfl
        refine iteB rfl (iteB rfl ⟨_, ks, rfl, eD, ?_, ?_, ?_, kb⟩)
        · rw [tk, st]; exact pk
        · rw [tk, st]; exact ksub
        · rw [tk, st]; omega
    · rintro σ H3 ⟨u, ks, rfl, eD, pk, ksub, kl, kb⟩
      rw [ul, List.take_length] at pk
      refine ⟨_, rfl, .inl ⟨D, _, rfl, SqL.of eD, fun q nq => ?_⟩⟩
      have s4 := same_new (o := HO.tup ks) nq
      exact k q ks rws _ ((far kb).trans s4) upd_same (rows_keep pk (.of s4)) lo
def spLeastT (C : Addr) : Sp := fun vs H Q _ => ∃ (c l : Addr) (zs : List Str) (ts : List V) (sel : List (List Str)), vs = [.ref c, .ref l] ∧ CircAt H C c zs ∧ NmOk zs ∧ zs.length ≤ 6 ∧ H l = some (.tup ts) ∧ Paired (RelT H) ts sel ∧ (∀ r ∈ sel, r.Sublist zs) ∧
  ∀ q us rws H', Same H H' → H' q = some (.tup us) → Paired (RelT H') us (leastF (fun r => decide (r ∈ sel)) rws) → LotsOk zs rws → Q (.ref q) H'
theorem ok_leastT {C f1 f2 : Addr} {fd1 fd2 : FuncData} (F : Fun K "least_of" "least_of" sLeast f fd) (T : Bl mg) (Cc : Cn mg)
    (G1 : FnOk P w K mg base CX0 3 f1 fd1 ["circle"] (spLots C)) (a1 : At K mg "lots" f1 fd1 ["circle"])
    (G2 : FnOk P w K mg base CX0 3 f2 fd2 ["some", "lot"] spHasOne) (a2 : At K mg "has_one" f2 fd2 ["some", "lot"]) :
    FnOk P w K mg base CX0 4 f fd ["circle", "some"] (spLeastT C) := by
  refine F.ok scLeast (fun vs H Q E h => ?_) (fun cdv A outer s H vs Q E hr h => ?_)
  · obtain ⟨c, l, zs, ts, sel, rfl, _⟩ := h
    rfl
  · obtain ⟨c, l, zs, ts, sel, rfl, ca, nk, z6, el, pr, hsub, k⟩ := h
    have nd := scLeast.nd
    refine ⟨_, pss_cons (ps_set (i := 2) nd rfl (.inl rfl) (pe_lst pa_nil))
      (pss_cons (ps_for PassesOwn.never rfl (pi_tup (pe_call G1 hr (by rfl) a1.m a1.kp a1.b .nil pass0 (pa_cons (pv 0) pa_nil))) (pg_name (i := 3) nd rfl (.inl rfl))
          (pss_one (ps_if (PW.pt (pw_and (pt_cmpR (op_inDT (room65 hr)) (pv 3) (pv 1) rfl) (pw_and1 (pt_not (pt_val (pe_call G2 hr (by rfl) a2.m a2.kp a2.b .nil pass0 (pa_cons (pv 2) (pa_cons (pv 3) pa_nil))))))))
            (pss_one (ps_expr (pe_bm PySem.F.plainAttrs_list PySem.F.slot_list_append PySem.F.type_list_append mt_append (pv 2) (pa_cons (pv 3) pa_nil)))) pss_nil)))
      (pss_one (ps_ret (pe_tupleOf (by rfl) Cc.tuple (pv 2))))), ?_⟩
    refine ⟨few_ok rfl, fun D nD => ?_⟩
    have s1 : Same H (upd H D (.lst [])) := same_new nD
    have eD0 := upd_same (H := H) (a := D) (o := HO.lst [])
    generalize upd H D (.lst []) = H1 at s1 eD0 ⊢
    have ca1 : CircAt H1 C c zs := by
      obtain ⟨dx, nm, e1, e2⟩ := ca
      exact ⟨dx, nm, s1 _ _ e1, e2.same s1⟩
    refine ⟨_, rfl, c, zs, rfl, ca1, z6, fun r us rws H2 s2 er pu lo => ?_⟩
    have eD2 := s2 _ _ eD0
    have s12 := s1.trans s2
    have rDD : r ≠ D := fun z => by rw [z, eD2] at er; cases er
    have rsub : ∀ x ∈ rws, x.Sublist zs := fun x hx => lots_sub lo hx
    have rl := lots_64 lo z6
    have ul : us.length = rws.length := paired_len pu
    have far : ∀ {H3 : Hp}, KeepB D H2 H3 → Same H H3 := fun kb b o q => kb _ _ (ne_of_none q nD) (s12 _ _ q)
    refine ⟨r, rfl, ⟨_, SqT.of er⟩, for_tup (xs := us) (fun i σ H3 => ∃ (u : Option V) (ks : List V), σ = [some (.ref c), some (.ref l), some (.ref D), u] ∧ H3 D = some (.lst ks) ∧ Paired (RelT H3) ks ((rws.take i).foldl (stepF fun x => decide (x ∈ sel)) []) ∧
      (∀ x ∈ (rws.take i).foldl (stepF fun x => decide (x ∈ sel)) [], x.Sublist zs) ∧ ((rws.take i).foldl (stepF fun x => decide (x ∈ sel)) []).length ≤ i ∧ KeepB D H2 H3) ?_ ?_ ?_ ?_⟩
    · exact ⟨none, [], rfl, eD2, .nil, (fun _ h => by cases h), Nat.le_refl _, fun _ _ _ q => q⟩
    · rintro i σ H3 _ ⟨_, _, _, _, _, _, _, kb⟩
      exact SqT.of (kb _ _ rDD er)
    · rintro i y σ H3 hy ⟨u, ks, rfl, eD, pk, ksub, kl, kb⟩
      obtain ⟨row, hrow⟩ : ∃ row, rws[i]? = some row := ⟨_, List.getElem?_eq_getElem (by rw [← ul]; exact (List.getElem?_eq_some_iff.mp hy).1)⟩
      obtain ⟨v2, hv2, p, rfl, ep⟩ := paired_get pu hrow
      obtain rfl : V.ref p = y := Option.some.inj (hv2.symm.trans hy)
      have i64 : i < 64 := by have := (List.getElem?_eq_some_iff.mp hrow).1; omega
      have pD : p ≠ D := fun z => by rw [z, eD2] at ep; cases ep
      have ep3 := kb _ _ pD ep
      have rs := rsub row (List.mem_of_getElem? hrow)
      obtain ⟨kept, hkept⟩ : ∃ kept, kept = (rws.take i).foldl (stepF fun x => decide (x ∈ sel)) [] := ⟨_, rfl⟩
      have tk : (rws.take (i + 1)).foldl (stepF fun x => decide (x ∈ sel)) [] = stepF (fun x => decide (x ∈ sel)) kept row := by
        rw [List.take_add_one, hrow, Option.toList_some, List.foldl_append, hkept]
        rfl
      rw [← hkept] at pk ksub kl
      have sH3 := far kb
      have pr3 := rows_keep pr (.of sH3)
      have nr := nice_lot nk rs
      refine ⟨_, rfl, _, rfl, .tuple (strsD row), sel.map fun z => .tuple (strsD z), .tup (SqT.of ep3) (dp_strs _), .tup (SqT.of (sH3 _ _ el)) (dp_rows pr3), nr.shaped (by decide), ?_, _, rfl, ?_⟩
      · exact (Nice.tup (c := 6 * (8 + 1)) (k := 1) (m := sel.length) (fun d hd => by
          obtain ⟨z, hz, rfl⟩ := List.mem_map.mp hd
          exact nice_lot nk (hsub z hz)) (by rw [List.length_map]; exact Nat.le_refl _)).shaped (by decide)
      rw [in_rows]
      by_cases hin : row ∈ sel
      · rw [decide_eq_true hin]
        refine iteT ?_
        have k6' : ∀ x ∈ kept, x.length ≤ 6 := fun x hx => Nat.le_trans (ksub x hx).length_le z6
        refine ⟨_, rfl, _, rfl, D, p, ks, kept, row, rfl, eD, pk, by omega, k6', ep3, fun H4 s4 => ⟨_, rfl, ?_⟩⟩
        have eD4 := s4 _ _ eD
        have kb4 : KeepB D H2 H4 := fun b o nb q => s4 _ _ (kb b o nb q)
        have pk4 := rows_keep pk (.of s4)
        have st : stepF (fun x => decide (x ∈ sel)) kept row = if (!hasB kept row) = true then kept ++ [row] else kept := by
          unfold stepF hasB
          rw [show (fun x => decide (x ∈ sel)) row = true from decide_eq_true hin, Bool.true_and]
        cases hb : hasB kept row with
        | true =>
          refine iteB rfl ⟨_, ks, rfl, eD4, ?_, ?_, ?_, kb4⟩
          · rw [tk, st, hb]; exact pk4
          · rw [tk, st, hb]; exact ksub
          · rw [tk, st, hb]
            show kept.length ≤ _
            omega
        | false =>
          refine iteT ?_
          have ksl : ks.length = kept.length := paired_len pk
          refine ⟨_, rfl, .inl ⟨rfl, _, SqL.of eD4⟩, _, rfl, D, _, _, rfl, rfl, eD4, by rw [sizeLine_eq]; omega, ?_⟩
          have kp : Keep H4 (upd H4 D (.lst (ks ++ [.ref p]))) := .upd eD4
          refine ⟨_, ks ++ [.ref p], rfl, upd_same, ?_, ?_, ?_, fun b o nb q => by rw [upd_ne nb]; exact kb4 b o nb q⟩
          · rw [tk, st, hb]
            exact Paired.add (rows_keep pk4 kp) ⟨p, rfl, kp _ _ (s4 _ _ ep3) fun _ z => by cases z⟩
          · rw [tk, st, hb]
            intro x hx
            rcases List.mem_append.mp hx with hx | hx
            · exact ksub x hx
            · rw [List.mem_singleton.mp hx]; exact rs
          · rw [tk, st, hb]
            show (kept ++ [row]).length ≤ _
            rw [List.length_append]
            show kept.length + 1 ≤ _
            omega
      · rw [decide_eq_false hin]
        have st : stepF (fun x => decide (x ∈ sel)) kept row = kept := by unfold stepF; rw [show (fun x => decide (x ∈ sel)) row = false from decide_eq_false hin]; rfl
        refine iteB rfl (iteB rfl ⟨_, ks, rfl, eD, ?_, ?_, ?_, kb⟩)
        · rw [tk, st]; exact pk
        · rw [tk, st]; exact ksub
        · rw [tk, st]; omega
    · rintro σ H3 ⟨u, ks, rfl, eD, pk, ksub, kl, kb⟩
      rw [ul, List.take_length] at pk
      refine ⟨_, rfl, .inl ⟨D, _, rfl, SqL.of eD, fun q nq => ?_⟩⟩
      have s4 := same_new (o := HO.tup ks) nq
      exact k q ks rws _ ((far kb).trans s4) upd_same (rows_keep pk (.of s4)) lo
/-! ### is_family, refuse_family -/
def spIsFam (C : Addr) : Sp := fun vs H Q _ => ∃ (c t : Addr) (zs : List Str) (rows : List (List Str)), vs = [.ref c, .ref t] ∧ CircAt H C c zs ∧ NmOk zs ∧ FamAt H t rows ∧ FamOk zs rows ∧ ∀ H', Same H H' → Q (.bl true) H'
theorem scIsFam : FnScope ["circle", "value"] ["circle", "value"] (defScope sIsFam) := ⟨rfl, rfl, rfl, by decide +kernel, rfl, by decide +kernel, by decide +kernel⟩
theorem ok_isFam {C f1 f2 : Addr} {fd1 fd2 : FuncData} (F : Fun K "is_family" "is_family" sIsFam f fd)
    (G1 : FnOk P w K mg base CX0 2 f1 fd1 ["circle", "value"] (spAreLots C)) (a1 : At K mg "are_lots" f1 fd1 ["circle", "value"])
    (G2 : FnOk P w K mg base CX0 4 f2 fd2 ["circle", "some"] (spLeastT C)) (a2 : At K mg "least_of" f2 fd2 ["circle", "some"]) :
    FnOk P w K mg base CX0 5 f fd ["circle", "value"] (spIsFam C) := by
  refine F.ok scIsFam (fun vs H Q E h => ?_) (fun cdv A outer s H vs Q E hr h => ?_)
  · obtain ⟨c, t, zs, rows, rfl, _⟩ := h
    rfl
  · obtain ⟨c, t, zs, rows, rfl, ca, nk, ht, fam, k⟩ := h
    have hr2 : Room 2 _ := hr.mono (by decide)
    refine ⟨_, pss_one (ps_ret (pe_and (pe_call G1 hr2 (by rfl) a1.m a1.kp a1.b .nil pass0 (pa_cons (pv 0) (pa_cons (pv 1) pa_nil)))
      (pe_one (pe_cmpR (op_eqD (room64 hr)) (pv 1) (pe_call G2 hr (by rfl) a2.m a2.kp a2.b .nil pass0 (pa_cons (pv 0) (pa_cons (pv 1) pa_nil))) (nomark _))))), ?_⟩
    have few := fam.few nk.nd nk.k6
    refine ⟨_, rfl, _, rfl, c, t, zs, rows, rfl, ca, nk, ht, fam.sub, fam.1, few, fam.nd nk.nd, fun H1 s1 => ⟨_, rfl, iteT ?_⟩⟩
    obtain ⟨ts, et, pr⟩ := ht.same s1
    refine ⟨_, rfl, _, rfl, _, rfl, c, t, zs, ts, rows, rfl, ca.same' s1, nk, nk.k6, et, pr, fam.sub, fun q us rws H2 s2 eq pu lo => ?_⟩
    rw [fam.least nk.nd lo] at pu
    have nR := nice_rows nk fam.sub (Nat.le_of_lt few)
    refine ⟨.tuple (rows.map fun r => PyData.tuple (strsD r)), .tuple (rows.map fun r => PyData.tuple (strsD r)), .tup (SqT.of (s2 _ _ et)) (dp_rows (rows_keep pr (.of s2))), .tup (SqT.of eq) (dp_rows pu), nR.shaped (by decide), nR.shaped (by decide), ?_⟩
    rw [nR.eqv]
    exact k _ (s1.trans s2)
def spRefFam (C : Addr) : Sp := fun vs H Q _ => ∃ (c t : Addr) (zs : List Str) (rows : List (List Str)), vs = [.ref c, .ref t] ∧ CircAt H C c zs ∧ NmOk zs ∧ FamAt H t rows ∧ FamOk zs rows ∧ ∀ H', Same H H' → Q .non H'
theorem scRefFam : FnScope ["circle", "value"] ["circle", "value"] (defScope sRefFam) := ⟨rfl, rfl, rfl, by decide +kernel, rfl, by decide +kernel, by decide +kernel⟩
theorem ok_refFam {C f1 : Addr} {fd1 : FuncData} (F : Fun K "refuse_family" "refuse_family" sRefFam f fd)
    (G1 : FnOk P w K mg base CX0 5 f1 fd1 ["circle", "value"] (spIsFam C)) (a1 : At K mg "is_family" f1 fd1 ["circle", "value"]) :
    FnOk P w K mg base CX0 6 f fd ["circle", "value"] (spRefFam C) := by
  refine F.ok scRefFam (fun vs H Q E h => ?_) (fun cdv A outer s H vs Q E hr h => ?_)
  · obtain ⟨c, t, zs, rows, rfl, _⟩ := h
    rfl
  · obtain ⟨c, t, zs, rows, rfl, ca, nk, ht, fam, k⟩ := h
    refine ⟨_, pss_one (ps_if (pt_not (pt_val (pe_call G1 hr (by rfl) a1.m a1.kp a1.b .nil pass0 (pa_cons (pv 0) (pa_cons (pv 1) pa_nil))))) pss_no pss_nil), ?_⟩
    exact ⟨_, rfl, _, rfl, c, t, zs, rows, rfl, ca, nk, ht, fam, fun H1 s1 => ⟨_, rfl, iteB rfl (k _ s1)⟩⟩
end
end K6
set_option Elab.async false
set_option linter.all false
set_option maxRecDepth 100000
set_option maxHeartbeats 1500000
set_option pp.maxSteps 1200
set_option pp.deepTerms false
namespace Lk
open PySem PySem.Spec PyProof.Rows L2
/-- t + u of plain tuples, each may be empty -/
def rCatT3 : R2 := fun x y H Q => ∃ (a b : Addr) (xs ys : List V), x = .ref a ∧ y = .ref b ∧ H a = some (.tup xs) ∧ H b = some (.tup ys) ∧ xs.length + ys.length ≤ sizeLine ∧ ∀ p H', Same H H' → H' p = some (.tup (xs ++ ys)) → Q (.ref p) H'
theorem op_catT3 {X : Cx} : OpR X (binaryOp .Add) rCatT3 := by
  intro pins s σ H x y v u Q I rx ry h
  obtain ⟨a, b, xs, ys, rfl, rfl, ha, hb, hz, q⟩ := h
  by_cases hx : xs = []
  · subst hx
    cases rx
    cases ry
    obtain ⟨its, r1, p1, _⟩ := I.tuple (SqT.of ha)
    obtain ⟨its2, r2, p2, _⟩ := I.tuple (SqT.of hb)
    cases r1
    exact cat_tup0 p1 p2 ⟨.ref b, H, I, rfl, q b H (Same.refl _) hb⟩
  · refine op_catT pins s σ H _ _ _ _ Q I rx ry ⟨a, b, xs, ys, rfl, rfl, SqT.of ha, SqT.of hb, hx, hz, fun e => ?_, fun _ p np => q p _ (same_new np) upd_same⟩
    subst e
    exact q a H (Same.refl _) (by rw [List.append_nil]; exact ha)
end Lk
namespace K6
open PySem PySem.Spec PyProof.Rows L2 Lk
abbrev sLeastP : Stmt := top 24
abbrev sJoined : Stmt := top 29
abbrev sShared : Stmt := top 30
abbrev sMany : Stmt := top 31
abbrev sBoth : Stmt := top 33
abbrev sCircLot : Stmt := inClass (top 17) 4
section
variable {P : Program} {w : World} {K : PySem.W.Frag} {mg : Str → Option Value} {base : Heap} {f : Addr} {fd : FuncData}
/-! ### Circle.lot -/
def spCircLot (C : Addr) : Sp := fun vs H Q _ => ∃ (c t : Addr) (zs ys : List Str), vs = [.ref c, .ref t] ∧ CircAt H C c zs ∧ zs.length ≤ 6 ∧ H t = some (.tup (ys.map V.str)) ∧ ys.length ≤ 12 ∧ (∀ y ∈ ys, y ∈ zs) ∧ ∀ q H', Same H H' → H' q = some (.tup ((zs.filter fun z => decide (z ∈ ys)).map V.str)) → Q (.ref q) H'
theorem scCircLot : FnScope ["self", "some", "name"] ["self", "some"] (defScope sCircLot) := ⟨rfl, rfl, rfl, by decide +kernel, rfl, by decide +kernel, by decide +kernel⟩
theorem ok_circLot {C fC : Addr} (F : Fun K "lot" "Circle.lot" sCircLot f fd) (T : Bl mg) (Cc : Cn mg) (CC : CircC K C fC) : FnOk P w K mg base CX0 1 f fd ["self", "some"] (spCircLot C) := by
  refine F.ok scCircLot (fun vs H Q E h => ?_) (fun cdv A outer s H vs Q E hr h => ?_)
  · obtain ⟨c, t, zs, ys, rfl, _⟩ := h
    rfl
  · obtain ⟨c, t, zs, ys, rfl, ⟨cdx, nm, ec, en⟩, z6, et, yl, sub, k⟩ := h
    have nd := scCircLot.nd
    refine ⟨_, pss_cons (ps_if (PW.pt (pw_or (pt_not (pt_val (pe_callB call_isi (by rfl) T.isin boot_isinstance (pa_cons (pv 1) (pa_cons (pe_bltn (v := .ty "tuple") (by rfl) Cc.tuple rfl rfl) pa_nil)))))
          (pw_or1 (pt_not (pt_val (pe_callB (cr_all rfl) (by rfl) T.all boot_all (pa_cons (pe_lc (own := [("name", 2)]) (g := gName 2) (tt := tYes) (te := tOp (rIn K false) (tVar 2) (tFld K (tVar 0) "names")) rfl nd (pi_tup (pv 1))
            (blkOk_by (N := ["self", "some", "name"]) (sc := defScope sCircLot) (by decide +kernel)) (fun _ _ _ _ _ => pg_name (i := 2) nd rfl (.inl rfl)) (fun _ _ _ _ _ => pts_nil)
            (fun _ _ _ _ _ => pe_cmpR op_in_seq (pv 2) (pe_fld (pv 0) rfl) rfl)) pa_nil))))))) pss_no pss_nil)
      (pss_one (ps_ret (pe_tupleOf (by rfl) Cc.tuple (pe_lc (own := [("name", 2)]) (g := gName 2) (tt := tTest (tOp (rIn K false) (tVar 2) (tVar 1))) (te := tVar 2) rfl nd (pi_tup (pe_fld (pv 0) rfl))
        (blkOk_by (N := ["self", "some", "name"]) (sc := defScope sCircLot) (by decide +kernel)) (fun _ _ _ _ _ => pg_name (i := 2) nd rfl (.inl rfl)) (fun _ _ _ _ _ => pts_one (pt_cmpR op_in_seq (pv 2) (pv 1) rfl)) (fun _ _ _ _ _ => pv 2))))), ?_⟩
    refine ⟨_, rfl, _, _, _, _, true, rfl, .ty _, .base (.tup et), by rfl, _, rfl, iteB rfl ?_⟩
    refine ⟨_, rfl, t, rfl, ⟨_, SqT.of et⟩, all_over (walk_tup (a := t) (xs := ys.map V.str)) ys V.str (fun _ => true) rfl (by omega) (fun H s => sqT_same s (SqT.of et)) ?_ ?_⟩
    · rintro i y H2 R hy s2 kk
      refine ⟨rfl, _, rfl, _, rfl, c, C, cdx, _, .ref nm, rfl, s2 _ _ ec, CC.cls, CC.nm, rfl, nm, _, rfl, .inr (en.same s2).sq, rfl, flat_strs _, ?_⟩
      rw [strs_inV, if_neg (by decide), decide_eq_true (sub y (List.mem_of_getElem? hy))]
      exact kk _ (Same.refl _)
    · intro H2 s2
      rw [show (ys.all fun _ => true) = true from List.all_eq_true.mpr fun _ _ => rfl]
      refine ⟨_, rfl, iteB rfl ?_⟩
      refine ⟨_, rfl, c, C, cdx, _, .ref nm, rfl, s2 _ _ ec, CC.cls, CC.nm, rfl, nm, rfl, ⟨_, (en.same s2).sq⟩, fun D nD => lc_fm (walk_tup (a := nm) (xs := zs.map V.str)) zs (fun z => if decide (z ∈ ys) = true then some (V.str z) else none) (by rw [List.length_map]) (by rw [List.length_map]; omega) nD (fun H s => ((en.same s2).same s).sq) ?_ ?_⟩
      · rintro i u z H3 H3' R Rn hz s3 ⟨rfl, hu⟩ k1 k2
        obtain rfl : V.str z = u := by
          rw [List.getElem?_map, hz] at hu
          exact Option.some.inj hu
        refine ⟨rfl, _, rfl, _, rfl, t, _, rfl, .inr (SqT.of ((s2.trans s3) _ _ et)), rfl, flat_strs _, _, rfl, ?_⟩
        rw [if_neg (by decide), strs_inV]
        by_cases h : z ∈ ys
        · exact iteA (decide_eq_true h) ⟨_, rfl, k1 _ _ (if_pos (decide_eq_true h)) (Same.refl _)⟩
        · exact iteB (decide_eq_false h) (k2 _ (if_neg (by simpa using h)) (Same.refl _))
      · intro H3 s3 eD
        rw [fm_strs] at eD
        exact .inl ⟨D, _, rfl, SqL.of eD, fun q nq => k q _ ((s2.trans s3).trans (same_new nq)) upd_same⟩
/-! ### least, joined -/
def spLeastP (C : Addr) : Sp := fun vs H Q _ => ∃ (c t : Addr) (zs : List Str) (rows : List (List Str)), vs = [.ref c, .ref t] ∧ CircAt H C c zs ∧ NmOk zs ∧ FamAt H t rows ∧ (∀ r ∈ rows, r.Sublist zs) ∧ rows ≠ [] ∧ rows.length < 64 ∧ rows.Nodup ∧
  ∀ q rws H', Same H H' → LotsOk zs rws → FamAt H' q (leastF (fun r => decide (r ∈ rows)) rws) → Q (.ref q) H'
theorem scLeastP : FnScope ["circle", "some"] ["circle", "some"] (defScope sLeastP) := ⟨rfl, rfl, rfl, by decide +kernel, rfl, by decide +kernel, by decide +kernel⟩
theorem ok_leastP {C f1 f2 : Addr} {fd1 fd2 : FuncData} (F : Fun K "least" "least" sLeastP f fd)
    (G1 : FnOk P w K mg base CX0 2 f1 fd1 ["circle", "value"] (spAreLots C)) (a1 : At K mg "are_lots" f1 fd1 ["circle", "value"])
    (G2 : FnOk P w K mg base CX0 4 f2 fd2 ["circle", "some"] (spLeastT C)) (a2 : At K mg "least_of" f2 fd2 ["circle", "some"]) :
    FnOk P w K mg base CX0 5 f fd ["circle", "some"] (spLeastP C) := by
  refine F.ok scLeastP (fun vs H Q E h => ?_) (fun cdv A outer s H vs Q E hr h => ?_)
  · obtain ⟨c, t, zs, rows, rfl, _⟩ := h
    rfl
  · obtain ⟨c, t, zs, rows, rfl, ca, nk, ht, sub, ne, few, nod, k⟩ := h
    have hr2 : Room 2 _ := hr.mono (by decide)
    refine ⟨_, pss_cons (ps_if (pt_not (pt_val (pe_call G1 hr2 (by rfl) a1.m a1.kp a1.b .nil pass0 (pa_cons (pv 0) (pa_cons (pv 1) pa_nil))))) pss_no pss_nil)
      (pss_one (ps_ret (pe_call G2 hr (by rfl) a2.m a2.kp a2.b .nil pass0 (pa_cons (pv 0) (pa_cons (pv 1) pa_nil))))), ?_⟩
    refine ⟨_, rfl, _, rfl, c, t, zs, rows, rfl, ca, nk, ht, sub, ne, few, nod, fun H1 s1 => ⟨_, rfl, iteB rfl ?_⟩⟩
    obtain ⟨ts, et, pr⟩ := ht.same s1
    exact ⟨_, rfl, _, rfl, c, t, zs, ts, rows, rfl, ca.same' s1, nk, nk.k6, et, pr, sub, fun q us rws H2 s2 eq pu lo => k q rws H2 (s1.trans s2) lo ⟨us, eq, pu⟩⟩
/-- of two families -/
def spTwo (C : Addr) (g : List Str → List (List Str) → List (List Str) → List (List Str)) : Sp := fun vs H Q _ => ∃ (c t u : Addr) (zs : List Str) (one two : List (List Str)), vs = [.ref c, .ref t, .ref u] ∧ CircAt H C c zs ∧ NmOk zs ∧ FamAt H t one ∧ FamAt H u two ∧ FamOk zs one ∧ FamOk zs two ∧
  ∀ q rws H', Same H H' → LotsOk zs rws → FamAt H' q (leastF (fun r => decide (r ∈ g zs one two)) rws) → Q (.ref q) H'
def spJoined (C : Addr) : Sp := spTwo C fun _ one two => one ++ two
def spBoth (C : Addr) : Sp := spTwo C lotsU
def spShared (C : Addr) : Sp := spTwo C lotsU
theorem scJoined : FnScope ["circle", "one", "other"] ["circle", "one", "other"] (defScope sJoined) := ⟨rfl, rfl, rfl, by decide +kernel, rfl, by decide +kernel, by decide +kernel⟩
theorem ok_joined {C f1 f2 : Addr} {fd1 fd2 : FuncData} (F : Fun K "joined" "joined" sJoined f fd)
    (G1 : FnOk P w K mg base CX0 6 f1 fd1 ["circle", "value"] (spRefFam C)) (a1 : At K mg "refuse_family" f1 fd1 ["circle", "value"])
    (G2 : FnOk P w K mg base CX0 4 f2 fd2 ["circle", "some"] (spLeastT C)) (a2 : At K mg "least_of" f2 fd2 ["circle", "some"]) :
    FnOk P w K mg base CX0 7 f fd ["circle", "one", "other"] (spJoined C) := by
  refine F.ok scJoined (fun vs H Q E h => ?_) (fun cdv A outer s H vs Q E hr h => ?_)
  · obtain ⟨c, t, u, zs, one, two, rfl, _⟩ := h
    rfl
  · obtain ⟨c, t, u, zs, one, two, rfl, ca, nk, ht, hu, o1, o2, k⟩ := h
    have hr4 : Room 4 _ := hr.mono (by decide)
    refine ⟨_, pss_cons (ps_expr (pe_call G1 hr (by rfl) a1.m a1.kp a1.b .nil pass0 (pa_cons (pv 0) (pa_cons (pv 1) pa_nil))))
      (pss_cons (ps_expr (pe_call G1 hr (by rfl) a1.m a1.kp a1.b .nil pass0 (pa_cons (pv 0) (pa_cons (pv 2) pa_nil))))
      (pss_one (ps_ret (pe_call G2 hr4 (by rfl) a2.m a2.kp a2.b .nil pass0 (pa_cons (pv 0) (pa_cons (pe_op op_catT3 (pv 1) (pv 2)) pa_nil)))))), ?_⟩
    refine ⟨_, rfl, _, rfl, c, t, zs, one, rfl, ca, nk, ht, o1, fun H1 s1 => ?_⟩
    refine ⟨_, rfl, _, rfl, c, u, zs, two, rfl, ca.same' s1, nk, hu.same s1, o2, fun H2 s2 => ?_⟩
    have s12 := s1.trans s2
    obtain ⟨ts, et, pt⟩ := ht.same s12
    obtain ⟨us, eu, pu⟩ := hu.same s12
    have l1 := o1.few nk.nd nk.k6
    have l2 := o2.few nk.nd nk.k6
    have tl := paired_len pt
    have ul := paired_len pu
    refine ⟨_, rfl, _, rfl, _, rfl, t, u, ts, us, rfl, rfl, et, eu, by rw [sizeLine_eq]; omega, fun p H3 s3 ep => ?_⟩
    refine ⟨c, p, zs, ts ++ us, one ++ two, rfl, ca.same' (s12.trans s3), nk, nk.k6, ep, paired_append (rows_keep pt (.of s3)) (rows_keep pu (.of s3)), fun r hr => (List.mem_append.mp hr).elim (o1.sub r) (o2.sub r), fun q us rws H4 s4 eq pq lo => k q rws H4 (s12.trans (s3.trans s4)) lo ⟨us, eq, pq⟩⟩
/-! ### least_with_both, shared -/
abbrev nmBo : List Str := ["circle", "one", "other", "lot", "row"]
theorem scBoth : FnScope nmBo ["circle", "one", "other"] (defScope sBoth) := ⟨rfl, rfl, rfl, by decide +kernel, rfl, by decide +kernel, by decide +kernel⟩
theorem ok_both {C fC fL f2 : Addr} {fdL fd2 : FuncData} (F : Fun K "least_with_both" "least_with_both" sBoth f fd) (CC : CircC K C fC)
    (ML : MethC K C "lot" fL) (FL : FnOk P w K mg base CX0 1 fL fdL ["self", "some"] (spCircLot C)) (kL : PySem.W.keepIn K (.ref fL) = true) (bL : Binds K fdL ["self", "some"] [])
    (G2 : FnOk P w K mg base CX0 4 f2 fd2 ["circle", "some"] (spLeastG C)) (a2 : At K mg "least_of" f2 fd2 ["circle", "some"]) :
    FnOk P w K mg base CX0 5 f fd ["circle", "one", "other"] (spBoth C) := by
  refine F.ok scBoth (fun vs H Q E h => ?_) (fun cdv A outer s H vs Q E hr h => ?_)
  · obtain ⟨c, t, u, zs, one, two, rfl, _⟩ := h
    rfl
  · obtain ⟨c, t, u, zs, one, two, rfl, ca, nk, ht, hu, o1, o2, k⟩ := h
    have nd := scBoth.nd
    have hr1 : Room 1 _ := hr.mono (by decide)
    refine ⟨_, pss_one (ps_ret (pe_call G2 hr (by rfl) a2.m a2.kp a2.b .nil pass0 (pa_cons (pv 0) (pa_cons (pe_lc2 (own := [("lot", 3), ("row", 4)]) (vs1 := [4]) (g := gName 3) (tt := tYes)
        (wi1 := iTup K (tVar 2)) (g1 := gName 4) (tt1 := tYes) (te := tMeth C "lot" (spCircLot C) [] E0 (tVar 0) (tCons (tOp rCatT3 (tVar 3) (tVar 4)) tNil)) rfl nd
        (pi_tup (pv 1)) (blkOk_by (N := nmBo) (sc := defScope sBoth) (by decide +kernel)) (by decide)
        (fun _ _ _ _ _ => pg_name (i := 3) nd rfl (.inl rfl)) (fun _ _ _ _ _ => pts_nil)
        (fun _ _ _ _ _ => pi_tup (pv 2))
        (fun _ _ _ _ _ => pg_name (i := 4) nd rfl (.inl rfl)) (fun _ _ _ _ _ => pts_nil) (fun _ _ _ _ _ => pe_meth (pv 0) CC.cls ⟨ML.at_, ML.fn, kL⟩ FL hr1 bL .nil pass0 (pa_cons (pe_op op_catT3 (pv 3) (pv 4)) pa_nil))) pa_nil)))), ?_⟩
    obtain ⟨ts, et, pt⟩ := id ht
    obtain ⟨us, eu, pu⟩ := id hu
    have l1 := o1.few nk.nd nk.k6
    have l2 := o2.few nk.nd nk.k6
    have tl := paired_len pt
    have ul := paired_len pu
    have k6 := nk.k6
    refine ⟨_, rfl, _, rfl, t, rfl, ⟨_, SqT.of et⟩, fun D nD => ?_⟩
    refine in_it (walk_tup (a := t) (xs := ts)) (fun i H' => ∃ ws, H' D = some (.lst ws) ∧ Paired (RelT H') ws (lotsU zs (one.take i) two) ∧ ws.length ≤ 64 * i ∧ Same H H') ⟨[], upd_same, .nil, by simp, same_new nD⟩ (fun i H' _ ⟨_, _, _, _, s'⟩ => SqT.of (s' _ _ et)) ?_ ?_
    · rintro i x H2 H3 hi ⟨ws, eD, pw, wl, s2⟩ ⟨rfl, hx⟩
      obtain ⟨a, ha⟩ : ∃ a, one[i]? = some a := ⟨_, List.getElem?_eq_getElem (by rw [← tl]; exact hi)⟩
      obtain ⟨v2, hv2, p, rfl, ep⟩ := paired_get pt ha
      obtain rfl : V.ref p = x := Option.some.inj (hv2.symm.trans hx)
      have as := o1.sub a (List.mem_of_getElem? ha)
      refine ⟨rfl, _, rfl, u, rfl, ⟨_, SqT.of (s2 _ _ eu)⟩, ?_⟩
      refine in_it (walk_tup (a := u) (xs := us)) (fun j H' => ∃ ws, H' D = some (.lst ws) ∧ Paired (RelT H') ws (lotsU zs (one.take i) two ++ (two.take j).map (lotU zs a)) ∧ ws.length ≤ 64 * i + j ∧ Same H H') ⟨ws, eD, by simpa using pw, by omega, s2⟩ (fun j H' _ ⟨_, _, _, _, s'⟩ => SqT.of (s' _ _ eu)) ?_ ?_
      · rintro j y H4 H4' hj ⟨ws, eD, pw, wl, s4⟩ ⟨rfl, hy⟩
        obtain ⟨b, hb⟩ : ∃ b, two[j]? = some b := ⟨_, List.getElem?_eq_getElem (by rw [← ul]; exact hj)⟩
        obtain ⟨v3, hv3, q, rfl, eq⟩ := paired_get pu hb
        obtain rfl : V.ref q = y := Option.some.inj (hv3.symm.trans hy)
        have bs := o2.sub b (List.mem_of_getElem? hb)
        obtain ⟨cdx, nm, ec, en⟩ := ca.same' s4
        have al := as.length_le
        have bl := bs.length_le
        refine ⟨rfl, _, rfl, c, cdx, _, rfl, ec, rfl, _, rfl, _, rfl, p, q, a.map V.str, b.map V.str, rfl, rfl, s4 _ _ ep, s4 _ _ eq, by rw [sizeLine_eq, List.length_map, List.length_map]; omega, fun p2 H5 s5 e5 => ?_⟩
        rw [← List.map_append] at e5
        refine ⟨c, p2, zs, a ++ b, rfl, ⟨cdx, nm, s5 _ _ ec, en.same s5⟩, k6, e5, by rw [List.length_append]; omega, fun z hz => (List.mem_append.mp hz).elim (fun h => as.subset h) fun h => bs.subset h, fun q2 H6 s6 e6 => ?_⟩
        have s46 := s5.trans s6
        have eD6 := s46 _ _ eD
        refine ⟨ws, eD6, by rw [sizeLine_eq]; omega, ws ++ [.ref q2], upd_same, ?_, by rw [List.length_append]; show ws.length + 1 ≤ _; omega, fun b o e => ?_⟩
        · have kp : Keep H6 (upd H6 D (.lst (ws ++ [.ref q2]))) := .upd eD6
          rw [List.take_add_one, hb, Option.toList_some, List.map_append, ← List.append_assoc]
          exact Paired.add (rows_keep pw ((Keep.of s46).trans kp)) ⟨q2, rfl, kp _ _ e6 fun _ z => by cases z⟩
        · rw [upd_ne (ne_of_none e nD)]
          exact s46 _ _ (s4 _ _ e)
      · rintro H4 ⟨ws, eD, pw, wl, s4⟩
        rw [ul, List.take_length] at pw
        refine ⟨ws, eD, ?_, by omega, s4⟩
        have : lotsU zs (one.take (i + 1)) two = lotsU zs (one.take i) two ++ two.map (lotU zs a) := by
          unfold lotsU
          rw [List.take_add_one, ha, List.flatMap_append]
          simp
        rw [this]
        exact pw
    · rintro H2 ⟨ws, eD, pw, wl, s2⟩
      rw [tl, List.take_length] at pw
      refine ⟨c, D, zs, ws, lotsU zs one two, rfl, ca.same' s2, nk, k6, eD, pw, fun r hr => ?_, fun q us rws H4 s4 eq pq lo => k q rws H4 (s2.trans s4) lo ⟨us, eq, pq⟩⟩
      obtain ⟨a, _, hr⟩ := List.mem_flatMap.mp hr
      obtain ⟨b, _, rfl⟩ := List.mem_map.mp hr
      exact List.filter_sublist
theorem scShared : FnScope ["circle", "one", "other"] ["circle", "one", "other"] (defScope sShared) := ⟨rfl, rfl, rfl, by decide +kernel, rfl, by decide +kernel, by decide +kernel⟩
theorem ok_shared {C f1 f2 : Addr} {fd1 fd2 : FuncData} (F : Fun K "shared" "shared" sShared f fd)
    (G1 : FnOk P w K mg base CX0 6 f1 fd1 ["circle", "value"] (spRefFam C)) (a1 : At K mg "refuse_family" f1 fd1 ["circle", "value"])
    (G2 : FnOk P w K mg base CX0 5 f2 fd2 ["circle", "one", "other"] (spBoth C)) (a2 : At K mg "least_with_both" f2 fd2 ["circle", "one", "other"]) :
    FnOk P w K mg base CX0 7 f fd ["circle", "one", "other"] (spShared C) := by
  refine F.ok scShared (fun vs H Q E h => ?_) (fun cdv A outer s H vs Q E hr h => ?_)
  · obtain ⟨c, t, u, zs, one, two, rfl, _⟩ := h
    rfl
  · obtain ⟨c, t, u, zs, one, two, rfl, ca, nk, ht, hu, o1, o2, k⟩ := h
    have hr5 : Room 5 _ := hr.mono (by decide)
    refine ⟨_, pss_cons (ps_expr (pe_call G1 hr (by rfl) a1.m a1.kp a1.b .nil pass0 (pa_cons (pv 0) (pa_cons (pv 1) pa_nil))))
      (pss_cons (ps_expr (pe_call G1 hr (by rfl) a1.m a1.kp a1.b .nil pass0 (pa_cons (pv 0) (pa_cons (pv 2) pa_nil))))
      (pss_one (ps_ret (pe_call G2 hr5 (by rfl) a2.m a2.kp a2.b .nil pass0 (pa_cons (pv 0) (pa_cons (pv 1) (pa_cons (pv 2) pa_nil))))))), ?_⟩
    refine ⟨_, rfl, _, rfl, c, t, zs, one, rfl, ca, nk, ht, o1, fun H1 s1 => ?_⟩
    refine ⟨_, rfl, _, rfl, c, u, zs, two, rfl, ca.same' s1, nk, hu.same s1, o2, fun H2 s2 => ?_⟩
    have s12 := s1.trans s2
    exact ⟨_, rfl, _, rfl, _, rfl, c, t, u, zs, one, two, rfl, ca.same' s12, nk, ht.same s12, hu.same s12, o1, o2, fun q rws H3 s3 lo fq => k q rws H3 (s12.trans s3) lo fq⟩
/-! ### many -/
def sizesL (n : Nat) (rows : List (List Str)) : List Int := (List.range (n + 1)).map fun m : Nat => (((rows.map fun r => (r.length : Int)).count (m : Int) : Nat) : Int)
def spMany (C : Addr) : Sp := fun vs H Q _ => ∃ (c t : Addr) (zs : List Str) (rows : List (List Str)), vs = [.ref c, .ref t] ∧ CircAt H C c zs ∧ NmOk zs ∧ FamAt H t rows ∧ FamOk zs rows ∧
  ∀ q rws H', Same H H' → LotsOk zs rws → H' q = some (.tup ((sizesL zs.length (rws.filter (hasB rows))).map V.int)) → Q (.ref q) H'
abbrev nmMa : List Str := ["circle", "family", "sizes", "lot", "size"]
theorem scMany : FnScope nmMa ["circle", "family"] (defScope sMany) := ⟨rfl, rfl, rfl, by decide +kernel, rfl, by decide +kernel, by decide +kernel⟩
theorem ok_many {C fC fL f1 f2 f3 : Addr} {fdL fd1 fd2 fd3 : FuncData} (F : Fun K "many" "many" sMany f fd) (T : Bl mg) (Cc : Cn mg) (CC : CircC K C fC) (ML : MethC K C "__len__" fL) (GL : FnOk P w K mg base CX0 1 fL fdL ["self"] (spCircLen C)) (bL : Binds K fdL ["self"] [])
    (G1 : FnOk P w K mg base CX0 6 f1 fd1 ["circle", "value"] (spRefFam C)) (a1 : At K mg "refuse_family" f1 fd1 ["circle", "value"])
    (G2 : FnOk P w K mg base CX0 3 f2 fd2 ["circle"] (spLots C)) (a2 : At K mg "lots" f2 fd2 ["circle"])
    (G3 : FnOk P w K mg base CX0 3 f3 fd3 ["some", "lot"] (spHasOneT K)) (a3 : At K mg "has_one" f3 fd3 ["some", "lot"]) :
    FnOk P w K mg base CX0 7 f fd ["circle", "family"] (spMany C) := by
  refine F.ok scMany (fun vs H Q E h => ?_) (fun cdv A outer s H vs Q E hr h => ?_)
  · obtain ⟨c, t, zs, rows, rfl, _⟩ := h
    rfl
  · obtain ⟨c, t, zs, rows, rfl, ca, nk, ht, fam, k⟩ := h
    have nd := scMany.nd
    have hr1 : Room 1 _ := hr.mono (by decide)
    have hr2 : Room 2 _ := hr.mono (by decide)
    have hr3 : Room 3 _ := hr.mono (by decide)
    refine ⟨_, pss_cons (ps_expr (pe_call G1 hr (by rfl) a1.m a1.kp a1.b .nil pass0 (pa_cons (pv 0) (pa_cons (pv 1) pa_nil))))
      (pss_cons (ps_set (i := 2) nd rfl (.inr rfl) (pe_lc (own := [("lot", 3)]) (g := gName 3) (tt := tTest (tCall (spHasOneT K) [] E0 (tCons (tVar 1) (tCons (tVar 3) tNil)))) (te := tCB (rLenS K) (tCons (tVar 3) tNil)) rfl nd (pi_tup (pe_call G2 hr3 (by rfl) a2.m a2.kp a2.b .nil pass0 (pa_cons (pv 0) pa_nil)))
          (blkOk_by (N := nmMa) (sc := defScope sMany) (by decide +kernel)) (fun _ _ _ _ _ => pg_name (i := 3) nd rfl (.inl rfl)) (fun _ _ _ _ _ => pts_one (pt_val (pe_call G3 hr3 (by rfl) a3.m a3.kp a3.b .nil pass0 (pa_cons (pv 1) (pa_cons (pv 3) pa_nil)))))
          (fun _ _ _ _ _ => pe_callB call_len_seq (by rfl) T.len PySem.boot_len (pa_cons (pv 3) pa_nil))))
      (pss_one (ps_ret (pe_tupleOf (by rfl) Cc.tuple (pe_lc (own := [("size", 4)]) (g := gName 4) (tt := tYes) (te := tBM K "list" (rCntI K) (tVar 2) (tCons (tVar 4) tNil)) rfl nd (pi_range1 (by rfl) T.range (pa_cons (pe_op op_add (pe_callB (call_lenI GL ML.at_ ML.fn bL hr2) (by rfl) T.len PySem.boot_len (pa_cons (pv 0) pa_nil)) pe_int) pa_nil))
          (blkOk_by (N := nmMa) (sc := defScope sMany) (by decide +kernel)) (fun _ _ _ _ _ => pg_name (i := 4) nd rfl (.inl rfl)) (fun _ _ _ _ _ => pts_nil)
          (fun _ _ _ _ _ => pe_bm PySem.F.plainAttrs_list PySem.F.slot_list_count PySem.F.type_list_count mt_lcount (pv 2) (pa_cons (pv 4) pa_nil))))))), ?_⟩
    have few := fam.few nk.nd nk.k6
    have z6 := nk.k6
    refine ⟨_, rfl, _, rfl, c, t, zs, rows, rfl, ca, nk, ht, fam, fun H1 s1 => ?_⟩
    refine ⟨_, rfl, c, zs, rfl, ca.same' s1, z6, fun r us rws H2 s2 er pu lo => ?_⟩
    have s12 := s1.trans s2
    have ht2 := ht.same s12
    have r64 := lots_64 lo z6
    obtain ⟨ws, w1, w2, w3⟩ := paired_zip pu
    have wl : ws.length = rws.length := by rw [← w2, List.length_map]
    refine ⟨r, rfl, ⟨_, SqT.of er⟩, fun D nD => lc_fm (walk_tup (a := r) (xs := us)) ws (fun z => if hasB rows z.2 = true then some (V.int (z.2.length : Int)) else none) (by rw [← w1, List.length_map]) (by rw [← w1, List.length_map]; omega) nD (fun H s => sqT_same s (SqT.of er)) ?_ ?_⟩
    · rintro i u ⟨zv, row⟩ H3 H3' R Rn hz s3 ⟨rfl, hu⟩ k1 k2
      obtain ⟨p, ez, ep⟩ := w3 _ (List.mem_of_getElem? hz)
      dsimp only at ez ep
      subst ez
      obtain rfl : V.ref p = u := by
        rw [← w1, List.getElem?_map, hz] at hu
        exact Option.some.inj hu
      refine ⟨rfl, _, rfl, _, rfl, t, p, rows, row, rfl, ht2.same s3, by omega, fun r hr => Nat.le_trans (fam.sub r hr).length_le z6, SqT.of (s3 _ _ ep), fun H4 s4 => ⟨_, rfl, ?_⟩⟩
      cases hb : hasB rows row with
      | true =>
        refine iteT ⟨_, rfl, p, _, rfl, .inr (SqT.of (s4 _ _ (s3 _ _ ep))), k1 _ _ ?_ s4⟩
        show (if hasB rows row = true then some (V.int (row.length : Int)) else none) = _
        rw [if_pos hb, List.length_map]
      | false => exact iteB rfl (k2 _ (if_neg (by rw [hb]; decide)) s4)
    intro H3 s3 eD
    have fe : (ws.filterMap fun z => if hasB rows z.2 = true then some (V.int (z.2.length : Int)) else none) = ((rws.filter (hasB rows)).map fun r => (r.length : Int)).map V.int := by
      rw [← w2]
      clear w1 w2 w3 wl eD
      induction ws with
      | nil => rfl
      | cons z ws ih =>
        rw [List.filterMap_cons, List.map_cons]
        by_cases h : hasB rows z.2 = true
        · rw [if_pos h, List.filter_cons_of_pos h, List.map_cons, List.map_cons, ih]
        · rw [if_neg h, List.filter_cons_of_neg h, ih]
    rw [fe] at eD
    have s13 := s12.trans s3
    obtain ⟨sz, hsz⟩ : ∃ sz : List Int, sz = (rws.filter (hasB rows)).map fun r => (r.length : Int) := ⟨_, rfl⟩
    rw [← hsz] at eD
    obtain ⟨cdx, nm, ec, en⟩ := ca.same' s13
    have zl : zs.length ≤ 6 := z6
    refine ⟨_, rfl, c, cdx, _, rfl, ec, c, zs, rfl, ⟨cdx, nm, ec, en⟩, _, rfl, by omega, by omega, _, _, rfl, rfl, _, rfl, by omega, by omega, fun D1 nD1 => ?_⟩
    have eT : ((zs.length : Nat) + 1 : Int).toNat = zs.length + 1 := by omega
    refine lc_fm (walk_range (n := ((zs.length : Nat) + 1 : Int).toNat)) (List.range (zs.length + 1)) (fun m => some (.int ((sz.count (m : Int) : Nat) : Int))) (by rw [eT, List.length_range]) (by rw [eT]; omega) nD1 (fun _ _ => trivial) ?_ ?_
    · rintro i u m H4 H4' R Rn ha s4 ⟨rfl, rfl⟩ k1 k2
      obtain ⟨hi, rfl⟩ : i < zs.length + 1 ∧ i = m := by
        obtain ⟨h2, h3⟩ := List.getElem?_eq_some_iff.mp ha
        rw [List.length_range] at h2
        rw [List.getElem_range] at h3
        exact ⟨h2, h3⟩
      have eD4 := s4 _ _ eD
      refine ⟨rfl, _, rfl, .inl ⟨rfl, _, SqL.of eD4⟩, _, rfl, D, sz, _, rfl, rfl, SqL.of eD4, k1 _ _ ?_ (Same.refl _)⟩
      show some (V.int ((sz.count (i : Int) : Nat) : Int)) = some (V.int ((sz.count (0 + (i : Nat) : Int) : Nat) : Int))
      rw [Int.zero_add]
    · intro H4 s4 eC
      have fe2 : ((List.range (zs.length + 1)).filterMap fun m : Nat => some (V.int ((sz.count (m : Int) : Nat) : Int))) = (sizesL zs.length (rws.filter (hasB rows))).map V.int := by
        unfold sizesL
        rw [List.map_map, hsz]
        simp
      rw [fe2] at eC
      exact .inl ⟨D1, _, rfl, SqL.of eC, fun q nq => k q rws _ ((s13.trans s4).trans (same_new nq)) lo upd_same⟩
end
end K6
set_option Elab.async false
set_option linter.all false
set_option maxRecDepth 100000
set_option maxHeartbeats 1500000
set_option pp.maxSteps 1200
set_option pp.deepTerms false
namespace K6
open PySem PySem.Spec PyProof.Rows L2 Lk
abbrev sHas : Stmt := top 25
abbrev sShowsHas : Stmt := top 26
abbrev sInN : Stmt := top 38
def retTScope (st : Stmt) (i : Nat) : Scope := match (defBody st).getD i (.Pass ⟨0, 0, 0, 0⟩) with
  | .Return (some (.Tuple [_, .Call _ [.ListComp _ _ sc _] _ _] _ _)) _ => sc
  | _ => defScope st
/-- what has tells of a lot -/
def HasAt (H : Hp) (q : Addr) (rows : List (List Str)) (ys : List Str) : Prop :=
  (∃ (i : Nat) (r : List Str), rows[i]? = some r ∧ inB r ys = true ∧ H q = some (.tup [.str "has", .int (i : Int)])) ∨
  (hasB rows ys = false ∧ ∃ (u : Addr) (ws : List Str), H q = some (.tup [.str "lacks", .ref u]) ∧ H u = some (.tup (ws.map V.str)) ∧ ws.length = rows.length ∧ ∀ (i : Nat) (w : Str) (r : List Str), ws[i]? = some w → rows[i]? = some r → w ∈ r ∧ w ∉ ys)
theorem HasAt.keep {H H' : Hp} {q : Addr} {rows : List (List Str)} {ys : List Str} (h : HasAt H q rows ys) (k : Keep H H') : HasAt H' q rows ys := by
  rcases h with ⟨i, r, h1, h2, h3⟩ | ⟨hb, u, ws, h1, h2, h3⟩
  · exact .inl ⟨i, r, h1, h2, k _ _ h3 fun _ z => by cases z⟩
  · exact .inr ⟨hb, u, ws, k _ _ h1 (fun _ z => by cases z), k _ _ h2 (fun _ z => by cases z), h3⟩
theorem lack_name {r ys : List Str} (h : inB r ys = false) : ∃ w, (r.filter fun z => !decide (z ∈ ys))[0]? = some w ∧ w ∈ r ∧ w ∉ ys := by
  cases e : r.filter fun z => !decide (z ∈ ys) with
  | nil =>
    have : inB r ys = true := inB_iff.mpr fun z hz => by
      by_cases hy : z ∈ ys
      · exact hy
      · have : z ∈ r.filter fun z => !decide (z ∈ ys) := List.mem_filter.mpr ⟨hz, by simp [hy]⟩
        rw [e] at this
        cases this
    rw [this] at h
    cases h
  | cons w ws =>
    have m : w ∈ r.filter fun z => !decide (z ∈ ys) := by rw [e]; exact List.mem_cons_self
    obtain ⟨h1, h2⟩ := List.mem_filter.mp m
    exact ⟨w, rfl, h1, by simpa using h2⟩
section
variable {P : Program} {w : World} {K : PySem.W.Frag} {mg : Str → Option Value} {base : Heap} {f : Addr} {fd : FuncData}
/-! ### has -/
def spHas (K : PySem.W.Frag) (C : Addr) : Sp := fun vs H Q _ => ∃ (c t l : Addr) (zs ys : List Str) (rows : List (List Str)), vs = [.ref c, .ref t, .ref l] ∧ CircAt H C c zs ∧ NmOk zs ∧ FamAt H t rows ∧ FamOk zs rows ∧ LotE H l ys ∧ ys.Sublist zs ∧ ∀ q H', Same H H' → HasAt H' q rows ys → Q (.ref q) H'
abbrev nmHas : List Str := ["circle", "family", "lot", "number", "row", "name"]
theorem scHas : FnScope nmHas ["circle", "family", "lot"] (defScope sHas) := ⟨rfl, rfl, rfl, by decide +kernel, rfl, by decide +kernel, by decide +kernel⟩
theorem ok_has {C f1 f2 f3 : Addr} {fd1 fd2 fd3 : FuncData} (F : Fun K "has" "has" sHas f fd) (T : Bl mg) (Cc : Cn mg)
    (G1 : FnOk P w K mg base CX0 6 f1 fd1 ["circle", "value"] (spRefFam C)) (a1 : At K mg "refuse_family" f1 fd1 ["circle", "value"])
    (G2 : FnOk P w K mg base CX0 2 f2 fd2 ["circle", "value"] (spRefLot C)) (a2 : At K mg "refuse_lot" f2 fd2 ["circle", "value"])
    (G3 : FnOk P w K mg base CX0 2 f3 fd3 ["some", "lot"] (spFirstT K)) (a3 : At K mg "first_within" f3 fd3 ["some", "lot"]) :
    FnOk P w K mg base CX0 7 f fd ["circle", "family", "lot"] (spHas K C) := by
  refine F.ok scHas (fun vs H Q E h => ?_) (fun cdv A outer s H vs Q E hr h => ?_)
  · obtain ⟨c, t, l, zs, ys, rows, rfl, _⟩ := h
    rfl
  · obtain ⟨c, t, l, zs, ys, rows, rfl, ca, nk, ht, fam, hl, ysub, k⟩ := h
    have nd := scHas.nd
    have hr2 : Room 2 _ := hr.mono (by decide)
    refine ⟨_, pss_cons (ps_expr (pe_call G1 hr (by rfl) a1.m a1.kp a1.b .nil pass0 (pa_cons (pv 0) (pa_cons (pv 1) pa_nil))))
      (pss_cons (ps_expr (pe_call G2 hr2 (by rfl) a2.m a2.kp a2.b .nil pass0 (pa_cons (pv 0) (pa_cons (pv 2) pa_nil))))
      (pss_cons (ps_set (i := 3) nd rfl (by first | exact .inl rfl | exact .inr rfl) (pe_call G3 hr2 (by rfl) a3.m a3.kp a3.b .nil pass0 (pa_cons (pv 1) (pa_cons (pv 2) pa_nil))))
      (pss_cons (ps_if (pt_cmpR op_notN (pv 3) pe_non (nomark _)) (pss_one (ps_ret (pe_tup (pa_cons pe_str (pa_cons (pv 3) pa_nil))))) pss_nil)
      (pss_one (ps_ret (pe_tup (pa_cons pe_str (pa_cons (pe_tupleOf (by rfl) Cc.tuple (pe_lc (own := [("row", 4)]) (g := gName 4) (tt := tYes) (te := tOp (rIxL K) (tLc (iTup K (tVar 4)) (gName 5) (tTest (tOp (rIn K true) (tVar 5) (tVar 2))) (tVar 5) [5]) (tC (.int 0))) rfl nd (pi_tup (pv 1))
          (blkOk_by (N := nmHas) (sc := defScope sHas) (by decide +kernel)) (fun _ _ _ _ _ => pg_name (i := 4) nd rfl (by first | exact .inl rfl | exact .inr rfl)) (fun _ _ _ _ _ => pts_nil)
          (fun _ _ _ _ _ => pe_ix ix_list (pe_lc (own := [("name", 5)]) (g := gName 5) (tt := tTest (tOp (rIn K true) (tVar 5) (tVar 2))) (te := tVar 5) rfl nd (pi_tup (pv 4))
            (blkOk_by (N := nmHas) (sc := relS (retTScope sHas 4) (defScope sHas)) (by decide +kernel)) (fun _ _ _ _ _ => pg_name (i := 5) nd rfl (by first | exact .inl rfl | exact .inr rfl)) (fun _ _ _ _ _ => pts_one (pt_cmpR op_notIn_seq (pv 5) (pv 2) rfl)) (fun _ _ _ _ _ => pv 5)) pe_int (fun _ _ => rfl)))) pa_nil)))))))), ?_⟩
    have few := fam.few nk.nd nk.k6
    have z6 := nk.k6
    refine ⟨_, rfl, _, rfl, c, t, zs, rows, rfl, ca, nk, ht, fam, fun H1 s1 => ?_⟩
    refine ⟨_, rfl, _, rfl, c, l, zs, ys, rfl, ca.same' s1, hl.same s1, ysub, nk, fun H2 s2 => ?_⟩
    have s12 := s1.trans s2
    have ht2 := ht.same s12
    have hl2 := hl.same s12
    refine ⟨_, rfl, _, rfl, t, l, rows, ys, rfl, ht2, by omega, fun r hr => Nat.le_trans (fam.sub r hr).length_le z6, hl2.sq, fun hb H3 s3 => ?_, fun i r H3 hr' hi s3 => ?_⟩
    · refine ⟨_, rfl, rfl, _, rfl, iteB rfl ?_⟩
      have s13 := s12.trans s3
      obtain ⟨ts, et, pr⟩ := ht.same s13
      have hl3 := hl.same s13
      have nin : ∀ r ∈ rows, inB r ys = false := fun r hr => Bool.eq_false_iff.mpr fun z => by
        rw [hasB_iff.mpr ⟨r, hr, z⟩] at hb
        cases hb
      obtain ⟨ks, rfl, rfl, tps⟩ := rows_addrF pr
      have kl : ks.length < 64 := by rw [List.length_map] at few; exact few
      have pick : ∀ r : List Str, ∃ v : Str, inB r ys = false → (r.filter fun z => !decide (z ∈ ys))[0]? = some v ∧ v ∈ r ∧ v ∉ ys := fun r => by
        cases h : inB r ys with
        | true => exact ⟨Str.empty, fun z => by cases z⟩
        | false =>
          obtain ⟨v, hv⟩ := lack_name h
          exact ⟨v, fun _ => hv⟩
      obtain ⟨g, hg⟩ := Classical.axiomOfChoice pick
      refine ⟨_, rfl, t, rfl, ⟨_, SqT.of et⟩, fun D nD => lc_fm (walk_tup (a := t) (xs := ks.map fun y => V.ref y.1)) ks (fun y => some (.str (g y.2))) (by rw [List.length_map]) (by rw [List.length_map]; omega) nD (fun H s => sqT_same s (SqT.of et)) ?_ ?_⟩
      · rintro i u y H4 H4' R Rn hy s4 ⟨rfl, hu⟩ k1 k2
        obtain rfl : V.ref y.1 = u := by
          rw [List.getElem?_map, hy] at hu
          exact Option.some.inj hu
        have hy' := List.mem_of_getElem? hy
        have yin : y.2 ∈ ks.map (·.2) := List.mem_map.mpr ⟨y, hy', rfl⟩
        obtain ⟨gg, _, _⟩ := hg y.2 (nin y.2 yin)
        have ey := s4 _ _ (tps y hy')
        have rl : y.2.length ≤ 6 := Nat.le_trans (fam.sub y.2 yin).length_le z6
        refine ⟨rfl, _, rfl, y.1, rfl, ⟨_, SqT.of ey⟩, fun D2 nD2 => lc_fm (walk_tup (a := y.1) (xs := y.2.map V.str)) y.2 (fun z => if (!decide (z ∈ ys)) = true then some (V.str z) else none) (by rw [List.length_map]) (by rw [List.length_map]; omega) nD2 (fun H s => sqT_same s (SqT.of ey)) ?_ ?_⟩
        · rintro j u z H5 H5' R2 Rn2 hz s5 ⟨rfl, hu2⟩ k3 k4
          obtain rfl : V.str z = u := by
            rw [List.getElem?_map, hz] at hu2
            exact Option.some.inj hu2
          refine ⟨rfl, _, rfl, _, rfl, l, _, rfl, .inr ((hl3.same (s4.trans s5)).sq), rfl, flat_strs _, _, rfl, ?_⟩
          rw [inV_str]
          by_cases hm : z ∈ ys
          · exact iteB (by simp [hm]) (k4 _ (by simp [hm]) (Same.refl _))
          · exact iteA (by simp [hm]) ⟨_, rfl, k3 _ _ (by simp [hm]) (Same.refl _)⟩
        · intro H5 s5 eD2
          rw [fm_strs] at eD2
          refine ⟨D2, _, _, _, rfl, rfl, SqL.of eD2, at0 ?_, k1 _ _ rfl s5⟩
          rw [List.getElem?_map, gg]
          rfl
      · intro H4 s4 eD
        have fe : (ks.filterMap fun y => some (V.str (g y.2))) = (ks.map fun y => g y.2).map V.str := by
          rw [List.map_map]
          simp
        rw [fe] at eD
        refine .inl ⟨D, _, rfl, SqL.of eD, fun u nu => ⟨few_ok rfl, fun q nq => ?_⟩⟩
        have s5 : Same H4 (upd H4 u (.tup ((ks.map fun y => g y.2).map V.str))) := same_new nu
        have s6 := same_new (o := HO.tup [.str "lacks", .ref u]) nq
        refine k q _ (s13.trans (s4.trans (s5.trans s6))) (.inr ⟨hb, u, ks.map fun y => g y.2, upd_same, s6 _ _ upd_same, by rw [List.length_map, List.length_map], fun i v r hv hr' => ?_⟩)
        rw [List.getElem?_map] at hv hr'
        cases z : ks[i]? with
        | none => rw [z] at hv; cases hv
        | some y =>
          rw [z] at hv hr'
          obtain rfl := Option.some.inj hv
          obtain rfl := Option.some.inj hr'
          have yin : y.2 ∈ ks.map (·.2) := List.mem_map.mpr ⟨y, List.mem_of_getElem? z, rfl⟩
          exact (hg y.2 (nin y.2 yin)).2
    · refine ⟨_, rfl, rfl, _, rfl, iteA rfl ?_⟩
      refine ⟨_, rfl, few_ok rfl, fun q nq => ?_⟩
      exact k q _ ((s12.trans s3).trans (same_new nq)) (.inl ⟨i, r, hr', hi, upd_same⟩)
/-! ### is_number_within -/
def spInN (K : PySem.W.Frag) : Sp := fun vs H Q _ => ∃ (t l : Addr) (rows : List (List Str)) (ys r : List Str) (m : Nat), vs = [.ref t, .ref l, .int (m : Int)] ∧ FamAt H t rows ∧ SqT K H l (ys.map V.str) ∧ rows[m]? = some r ∧ inB r ys = true ∧ r.length ≤ 6 ∧ ∀ H', Same H H' → Q (.bl true) H'
theorem scInN : FnScope ["some", "lot", "value"] ["some", "lot", "value"] (defScope sInN) := ⟨rfl, rfl, rfl, by decide +kernel, rfl, by decide +kernel, by decide +kernel⟩
theorem ok_inN {f1 f2 : Addr} {fd1 fd2 : FuncData} (F : Fun K "is_number_within" "is_number_within" sInN f fd)
    (G1 : FnOk P w K mg base CX0 3 f1 fd1 ["value", "some"] (spNumOf K)) (a1 : At K mg "is_number_of" f1 fd1 ["value", "some"])
    (G2 : FnOk P w K mg base CX0 1 f2 fd2 ["lot", "other"] (spWithin K)) (a2 : At K mg "is_within" f2 fd2 ["lot", "other"]) :
    FnOk P w K mg base CX0 4 f fd ["some", "lot", "value"] (spInN K) := by
  refine F.ok scInN (fun vs H Q E h => ?_) (fun cdv A outer s H vs Q E hr h => ?_)
  · obtain ⟨t, l, rows, ys, r, m, rfl, _⟩ := h
    rfl
  · obtain ⟨t, l, rows, ys, r, m, rfl, ⟨ts, et, pr⟩, hl, hm, hi, r6, k⟩ := h
    have hr1 : Room 1 _ := hr.mono (by decide)
    refine ⟨_, pss_one (ps_ret (pe_and (pe_call G1 hr (by rfl) a1.m a1.kp a1.b .nil pass0 (pa_cons (pv 2) (pa_cons (pv 0) pa_nil)))
      (pe_one (pe_call G2 hr1 (by rfl) a2.m a2.kp a2.b .nil pass0 (pa_cons (pe_ix ix_tup (pv 0) (pv 2) (fun _ _ => rfl)) (pa_cons (pv 1) pa_nil)))))), ?_⟩
    obtain ⟨v, hv, p, rfl, ep⟩ := paired_get pr hm
    have ml : m < ts.length := (List.getElem?_eq_some_iff.mp hv).1
    refine ⟨_, rfl, _, rfl, m, t, ts, rfl, SqT.of et, ml, _, rfl, iteT ?_⟩
    refine ⟨_, rfl, _, rfl, t, _, _, _, rfl, rfl, SqT.of et, atI_nat hv, _, rfl, p, l, r, ys, rfl, .inr (SqT.of ep), .inr hl, by omega, fun H' s' => ?_⟩
    rw [show (r.all fun y => decide (y ∈ ys)) = true from hi]
    exact k _ s'
end
end K6
set_option Elab.async false
set_option linter.all false
set_option maxRecDepth 100000
set_option maxHeartbeats 1500000
set_option pp.maxSteps 1200
set_option pp.deepTerms false
namespace K6
open PySem PySem.Spec PyProof.Rows L2 Lk
abbrev sWithinF : Stmt := top 27
abbrev sShowsW : Stmt := top 28
/-- what within tells of two families -/
def WthAt (H : Hp) (q : Addr) (one two : List (List Str)) : Prop :=
  (∃ (p : Addr) (r : List Str), r ∈ one ∧ hasB two r = false ∧ H q = some (.tup [.str "parts", .ref p]) ∧ H p = some (.tup (r.map V.str))) ∨
  ((∀ r ∈ one, hasB two r = true) ∧ ∃ (u : Addr) (ms : List Nat), H q = some (.tup [.str "within", .ref u]) ∧ H u = some (.tup (ms.map fun m : Nat => V.int (m : Int))) ∧ ms.length = one.length ∧ ∀ (i m : Nat) (r : List Str), ms[i]? = some m → one[i]? = some r → ∃ s, two[m]? = some s ∧ inB s r = true)
theorem WthAt.keep {H H' : Hp} {q : Addr} {one two : List (List Str)} (h : WthAt H q one two) (k : Keep H H') : WthAt H' q one two := by
  rcases h with ⟨p, r, h1, h2, h3, h4⟩ | ⟨hb, u, ms, h1, h2, h3⟩
  · exact .inl ⟨p, r, h1, h2, k _ _ h3 (fun _ z => by cases z), k _ _ h4 fun _ z => by cases z⟩
  · exact .inr ⟨hb, u, ms, k _ _ h1 (fun _ z => by cases z), k _ _ h2 (fun _ z => by cases z), h3⟩
/-- a number of a lot of two within r, or None -/
def RelNo (two : List (List Str)) (_ : Hp) (v : V) (r : List Str) : Prop := (v = .non ∧ hasB two r = false) ∨ ∃ (m : Nat) (s : List Str), v = .int (m : Int) ∧ two[m]? = some s ∧ inB s r = true
theorem nums_of {two : List (List Str)} {H : Hp} : ∀ {vs : List V} {rows : List (List Str)}, Paired (RelNo two H) vs rows → (∀ v ∈ vs, v ≠ .non) → (∀ r ∈ rows, hasB two r = true) ∧ ∃ ms : List Nat, vs = ms.map (fun m : Nat => V.int (m : Int)) ∧ ms.length = rows.length ∧ ∀ (i m : Nat) (r : List Str), ms[i]? = some m → rows[i]? = some r → ∃ s, two[m]? = some s ∧ inB s r = true
  | _, _, .nil, _ => ⟨fun _ h => (by cases h), [], rfl, rfl, fun i m r h => (by simp at h)⟩
  | v :: vs, r :: rows, .cons h p, nn => by
    obtain ⟨hb, ms, e, l, g⟩ := nums_of p fun v hv => nn v (List.mem_cons_of_mem _ hv)
    rcases h with ⟨rfl, _⟩ | ⟨m, s, rfl, hm, hi⟩
    · exact absurd rfl (nn .non List.mem_cons_self)
    · refine ⟨fun x hx => ?_, m :: ms, by rw [e]; rfl, by rw [List.length_cons, l]; rfl, fun i m' r' h1 h2 => ?_⟩
      · rcases List.mem_cons.mp hx with rfl | hx
        · exact hasB_iff.mpr ⟨s, List.mem_of_getElem? hm, hi⟩
        · exact hb x hx
      · cases i with
        | zero =>
          obtain rfl := Option.some.inj h1
          obtain rfl := Option.some.inj h2
          exact ⟨s, hm, hi⟩
        | succ i => exact g i m' r' h1 h2
/-- all([.. for a, b in zip(..)]), each turn true -/
theorem all_pairs {K : PySem.W.Frag} {J : It} {n : Nat} {G : Hp → Prop} {fx fy : Nat → Option V} (w : Walk J n G (YPair fx fy)) {g : TG} {te : TE} {vs : List Nat} {σ : L2.St} {H1 : Hp} {R : VK} (few : n ≤ 100000) (hG : ∀ H, Same H1 H → G H)
    (hs : ∀ (i : Nat) (t : Addr) (a b : V) H (R' : VK), i < n → fx i = some a → fy i = some b → Same H1 H → H t = none → (∀ H4, Same (upd H t (.tup [a, b])) H4 → R' (.bl true) H4) → g (.ref t) (wipe σ vs) (upd H t (.tup [a, b])) fun σ2 H2 => wipe σ2 vs = wipe σ vs ∧ te σ2 H2 R')
    (hd : ∀ H, Same H1 H → R (.bl true) H) : LcR J g tYes te vs σ H1 fun x H2 => tNil σ H2 fun xs H3 => rAll K (x :: xs) H3 R := fun D nD => by
  refine lc_it w (fun q Hq => Hq D = some (.lst (List.replicate q (V.bl true))) ∧ Same H1 Hq) ⟨upd_same, same_new nD⟩ (fun q Hq _ ⟨_, s⟩ => hG _ s) ?_ ?_
  · rintro i x Hq Hq' hi ⟨eD, sq⟩ ⟨t, a, b, rfl, nt, rfl, e1, e2⟩
    have go := hs i t a b Hq (fun y H4 => ∃ acc, H4 D = some (.lst acc) ∧ acc.length < sizeLine ∧ (upd H4 D (.lst (acc ++ [y]))) D = some (.lst (List.replicate (i + 1) (V.bl true))) ∧ Same H1 (upd H4 D (.lst (acc ++ [y])))) hi e1 e2 sq nt fun H4 s4 => by
      have s3 := (same_new (o := HO.tup [a, b]) nt).trans s4
      refine ⟨_, s3 _ _ eD, by rw [List.length_replicate, sizeLine_eq]; omega, ?_, fun b o e => ?_⟩
      · rw [upd_same, List.replicate_succ']
      · rw [upd_ne (ne_of_none e nD)]
        exact s3 _ _ (sq _ _ e)
    have ty : ∀ (N : VK) (M : Hp → Prop), (fun (σ2 : L2.St) H2 => wipe σ2 vs = wipe σ vs ∧ tYes σ2 H2 fun c H3 => if c = true then te σ2 H3 N else M H3) = (fun σ2 H2 => wipe σ2 vs = wipe σ vs ∧ te σ2 H2 N) := fun N M => by
      funext σ2 H2
      exact congrArg (And _) (tYes_if σ2 H2 (fun H3 => te σ2 H3 _) _)
    rw [ty]
    exact go
  · rintro Hq ⟨eD, sq⟩
    have eq3 : Hq D = some (.lst ((List.replicate n true).map V.bl)) := by rw [eD, List.map_replicate]
    refine ⟨D, List.replicate n true, rfl, SqL.of eq3, ?_⟩
    have al : (List.replicate n true).all id = true := by
      rw [List.all_eq_true]
      intro b hb
      rw [(List.mem_replicate.mp hb).2]
      rfl
    rw [al]
    exact hd Hq sq
theorem told_t (x : V) (w : Str) : (decide ((([x] : List V).length : Int) + 1 = 2) && decide (w = w)) = true := by simp
theorem told_f (x : V) {w v : Str} (h : decide (w = v) = false) : (decide ((([x] : List V).length : Int) + 1 = 2) && decide (w = v)) = false := by rw [h, Bool.and_false]
section
variable {P : Program} {w : World} {K : PySem.W.Frag} {mg : Str → Option Value} {base : Heap} {f : Addr} {fd : FuncData}
/-! ### shows_has -/
def spShowsHas (K : PySem.W.Frag) (C : Addr) : Sp := fun vs H Q _ => ∃ (c t l q : Addr) (zs ys : List Str) (rows : List (List Str)), vs = [.ref c, .ref t, .ref l, .ref q] ∧ CircAt H C c zs ∧ NmOk zs ∧ FamAt H t rows ∧ FamOk zs rows ∧ LotE H l ys ∧ ys.Sublist zs ∧ HasAt H q rows ys ∧ ∀ H', Same H H' → Q (.bl true) H'
abbrev nmSh : List Str := ["circle", "family", "lot", "value", "name", "row"]
theorem scShowsHas : FnScope nmSh ["circle", "family", "lot", "value"] (defScope sShowsHas) := ⟨rfl, rfl, rfl, by decide +kernel, rfl, by decide +kernel, by decide +kernel⟩
theorem ok_showsHas {C f1 f2 f3 f4 f5 : Addr} {fd1 fd2 fd3 fd4 fd5 : FuncData} (F : Fun K "shows_has" "shows_has" sShowsHas f fd) (T : Bl mg) (Cc : Cn mg)
    (G1 : FnOk P w K mg base CX0 6 f1 fd1 ["circle", "value"] (spRefFam C)) (a1 : At K mg "refuse_family" f1 fd1 ["circle", "value"])
    (G2 : FnOk P w K mg base CX0 2 f2 fd2 ["circle", "value"] (spRefLot C)) (a2 : At K mg "refuse_lot" f2 fd2 ["circle", "value"])
    (G3 : FnOk P w K mg base CX0 2 f3 fd3 ["value", "word", "many"] spIsTold) (a3 : At K mg "is_told" f3 fd3 ["value", "word", "many"])
    (G4 : FnOk P w K mg base CX0 4 f4 fd4 ["some", "lot", "value"] (spInN K)) (a4 : At K mg "is_number_within" f4 fd4 ["some", "lot", "value"])
    (G5 : FnOk P w K mg base CX0 1 f5 fd5 ["value", "many"] spIsRow) (a5 : At K mg "is_row" f5 fd5 ["value", "many"]) :
    FnOk P w K mg base CX0 7 f fd ["circle", "family", "lot", "value"] (spShowsHas K C) := by
  refine F.ok scShowsHas (fun vs H Q E h => ?_) (fun cdv A outer s H vs Q E hr h => ?_)
  · obtain ⟨c, t, l, q, zs, ys, rows, rfl, _⟩ := h
    rfl
  · obtain ⟨c, t, l, q, zs, ys, rows, rfl, ca, nk, ht, fam, hl, ysub, has, k⟩ := h
    have nd := scShowsHas.nd
    have hr1 : Room 1 _ := hr.mono (by decide)
    have hr2 : Room 2 _ := hr.mono (by decide)
    have hr4 : Room 4 _ := hr.mono (by decide)
    have hrT : Room 2 _ := hr.mono (by decide)
    refine ⟨_, pss_cons (ps_expr (pe_call G1 hr (by rfl) a1.m a1.kp a1.b .nil pass0 (pa_cons (pv 0) (pa_cons (pv 1) pa_nil))))
      (pss_cons (ps_expr (pe_call G2 hr2 (by rfl) a2.m a2.kp a2.b .nil pass0 (pa_cons (pv 0) (pa_cons (pv 2) pa_nil))))
      (pss_cons (ps_if (pt_val (pe_call G3 hrT (by rfl) a3.m a3.kp a3.b .nil pass0 (pa_cons (pv 3) (pa_cons pe_str (pa_cons pe_int pa_nil)))))
          (pss_one (ps_ret (pe_call G4 hr4 (by rfl) a4.m a4.kp a4.b .nil pass0 (pa_cons (pv 1) (pa_cons (pv 2) (pa_cons (pe_ix ix_tup (pv 3) pe_int (fun _ _ => rfl)) pa_nil)))))) pss_nil)
      (pss_cons (ps_if (PW.pt (pw_or (pt_not (pt_val (pe_call G3 hrT (by rfl) a3.m a3.kp a3.b .nil pass0 (pa_cons (pv 3) (pa_cons pe_str (pa_cons pe_int pa_nil))))))
          (pw_or1 (pt_not (pt_val (pe_call G5 hr1 (by rfl) a5.m a5.kp a5.b .nil pass0 (pa_cons (pe_ix ix_tup (pv 3) pe_int (fun _ _ => rfl)) (pa_cons (pe_callB call_len_seq (by rfl) T.len PySem.boot_len (pa_cons (pv 1) pa_nil)) pa_nil)))))))) pss_no pss_nil)
      (pss_one (ps_ret (pe_callB (cr_all rfl) (by rfl) T.all boot_all (pa_cons (pe_lc (own := [("name", 4), ("row", 5)]) (g := gTup K 2 (gCons (gName 4) (gCons (gName 5) gNil))) (tt := tYes) (te := tAndV (tOp (rIn K false) (tVar 4) (tVar 5)) (tOp (rIn K true) (tVar 4) (tVar 2))) rfl nd (pi_zipS (by rfl) Cc.zip (pa_cons (pe_ix ix_tup (pv 3) pe_int (fun _ _ => rfl)) (pa_cons (pv 1) pa_nil)))
          (blkOk_by (N := nmSh) (sc := defScope sShowsHas) (by decide +kernel)) (fun _ _ _ _ _ => pg_tup rfl (pgs_cons (pg_name (i := 4) nd rfl (by first | exact .inl rfl | exact .inr rfl)) (pgs_cons (pg_name (i := 5) nd rfl (by first | exact .inl rfl | exact .inr rfl)) pgs_nil))) (fun _ _ _ _ _ => pts_nil)
          (fun _ _ _ _ _ => pe_and (pe_cmpR op_in_seq (pv 4) (pv 5) rfl) (pe_one (pe_cmpR op_notIn_seq (pv 4) (pv 2) rfl)))) pa_nil))))))), ?_⟩
    have few := fam.few nk.nd nk.k6
    have z6 := nk.k6
    have r6 : ∀ r ∈ rows, r.length ≤ 6 := fun r hr => Nat.le_trans (fam.sub r hr).length_le z6
    refine ⟨_, rfl, _, rfl, c, t, zs, rows, rfl, ca, nk, ht, fam, fun H1 s1 => ?_⟩
    refine ⟨_, rfl, _, rfl, c, l, zs, ys, rfl, ca.same' s1, hl.same s1, ysub, nk, fun H2 s2 => ?_⟩
    have s12 := s1.trans s2
    have ht2 := ht.same s12
    have hl2 := hl.same s12
    rcases has.keep (.of s12) with ⟨i, r, hr', hi, eq⟩ | ⟨hb, u, ws, eq, eu, wl, wr⟩
    · refine ⟨_, rfl, q, [.int (i : Int)], "has", "has", 2, rfl, eq, _, rfl, iteA (told_t _ _) ?_⟩
      exact ⟨_, rfl, _, rfl, _, rfl, q, _, _, _, rfl, rfl, SqT.of eq, atI_nat (j := 1) rfl, t, l, rows, ys, r, i, rfl, ht2, hl2.sq, hr', hi, r6 r (List.mem_of_getElem? hr'), fun H3 s3 => k _ (s12.trans s3)⟩
    · refine ⟨_, rfl, q, [.ref u], "lacks", "has", 2, rfl, eq, _, rfl, iteB (told_f _ (by decide +kernel)) ?_⟩
      refine ⟨_, rfl, q, [.ref u], "lacks", "lacks", 2, rfl, eq, _, rfl, iteB (by rw [told_t]; rfl) ?_⟩
      obtain ⟨ts, et, pr⟩ := id ht2
      have tl := paired_len pr
      refine ⟨_, rfl, q, _, _, _, rfl, rfl, SqT.of eq, atI_nat (j := 1) rfl, _, rfl, t, _, rfl, .inr (SqT.of et), u, _, _, rfl, eu, _, rfl, iteB ?_ ?_⟩
      · rw [List.length_map, wl, tl]
        simp
      refine ⟨_, rfl, q, _, _, _, rfl, rfl, SqT.of eq, atI_nat (j := 1) rfl, _, rfl, .tup u, .tup t, ws.map V.str, ts, rfl, SqT.of eu, SqT.of et, all_pairs (walk_zipS (n := rows.length) (by rw [List.length_map, wl, tl, Nat.min_self])) (by omega) (fun H s => ⟨SqT.of (s _ _ eu), SqT.of (s _ _ et)⟩) ?_ fun H3 s3 => k _ (s12.trans s3)⟩
      rintro i T1 a b H3 R hi e1 e2 s3 nT kk
      obtain ⟨wd, hwd, rfl⟩ : ∃ wd, ws[i]? = some wd ∧ a = .str wd := by
        have e1 : (ws.map V.str)[i]? = some a := e1
        rw [List.getElem?_map] at e1
        obtain ⟨z, h1, h2⟩ := Option.map_eq_some_iff.mp e1
        exact ⟨z, h1, h2.symm⟩
      obtain ⟨r, hr'⟩ : ∃ r, rows[i]? = some r := ⟨_, List.getElem?_eq_getElem hi⟩
      obtain ⟨v, hv, p, rfl, ep⟩ := paired_get pr hr'
      obtain rfl : V.ref p = b := Option.some.inj (hv.symm.trans e2)
      obtain ⟨w1, w2⟩ := wr i wd r hwd hr'
      have s4 := s3.trans (same_new (o := HO.tup [.str wd, .ref p]) nT)
      refine ⟨T1, _, rfl, SqT.of upd_same, rfl, _, _, rfl, _, _, rfl, rfl, rfl, _, rfl, _, rfl, p, _, rfl, .inr (SqT.of (s4 _ _ ep)), rfl, flat_strs _, _, rfl, ?_⟩
      rw [inV_str]
      refine iteA (by simp [w1]) ?_
      refine ⟨_, rfl, _, rfl, l, _, rfl, .inr ((hl2.same s4).sq), rfl, flat_strs _, ?_⟩
      rw [inV_str, show (if true = true then !decide (wd ∈ ys) else decide (wd ∈ ys)) = true by simp [w2]]
      exact kk _ (Same.refl _)
end
end K6
set_option Elab.async false
set_option linter.all false
set_option maxRecDepth 100000
set_option maxHeartbeats 1500000
set_option pp.maxSteps 1200
set_option pp.deepTerms false
namespace K6
open PySem PySem.Spec PyProof.Rows L2 Lk
section
variable {P : Program} {w : World} {K : PySem.W.Frag} {mg : Str → Option Value} {base : Heap} {f : Addr} {fd : FuncData}
/-! ### within -/
def spWithinF (C : Addr) : Sp := fun vs H Q _ => ∃ (c t u : Addr) (zs : List Str) (one two : List (List Str)), vs = [.ref c, .ref t, .ref u] ∧ CircAt H C c zs ∧ NmOk zs ∧ FamAt H t one ∧ FamAt H u two ∧ FamOk zs one ∧ FamOk zs two ∧ ∀ q H', Same H H' → WthAt H' q one two → Q (.ref q) H'
abbrev nmWi : List Str := ["circle", "one", "other", "numbers", "lot", "number"]
theorem scWithinF : FnScope nmWi ["circle", "one", "other"] (defScope sWithinF) := ⟨rfl, rfl, rfl, by decide +kernel, rfl, by decide +kernel, by decide +kernel⟩
theorem ok_withinF {C f1 f2 : Addr} {fd1 fd2 : FuncData} (F : Fun K "within" "within" sWithinF f fd) (T : Bl mg) (Cc : Cn mg)
    (G1 : FnOk P w K mg base CX0 6 f1 fd1 ["circle", "value"] (spRefFam C)) (a1 : At K mg "refuse_family" f1 fd1 ["circle", "value"])
    (G2 : FnOk P w K mg base CX0 2 f2 fd2 ["some", "lot"] (spFirstT K)) (a2 : At K mg "first_within" f2 fd2 ["some", "lot"]) :
    FnOk P w K mg base CX0 7 f fd ["circle", "one", "other"] (spWithinF C) := by
  refine F.ok scWithinF (fun vs H Q E h => ?_) (fun cdv A outer s H vs Q E hr h => ?_)
  · obtain ⟨c, t, u, zs, one, two, rfl, _⟩ := h
    rfl
  · obtain ⟨c, t, u, zs, one, two, rfl, ca, nk, ht, hu, o1, o2, k⟩ := h
    have nd := scWithinF.nd
    have hr2 : Room 2 _ := hr.mono (by decide)
    refine ⟨_, pss_cons (ps_expr (pe_call G1 hr (by rfl) a1.m a1.kp a1.b .nil pass0 (pa_cons (pv 0) (pa_cons (pv 1) pa_nil))))
      (pss_cons (ps_expr (pe_call G1 hr (by rfl) a1.m a1.kp a1.b .nil pass0 (pa_cons (pv 0) (pa_cons (pv 2) pa_nil))))
      (pss_cons (ps_setLc (i := 3) (own := [("lot", 4)]) (g := gName 4) (tt := tYes) (te := tCall (spFirstT K) [] E0 (tCons (tVar 2) (tCons (tVar 4) tNil))) rfl nd rfl rfl (sw_true rfl rfl rfl (by decide +kernel)) (pi_tup (pv 1))
          (blkOk_by (N := nmWi) (sc := defScope sWithinF) (by decide +kernel)) (fun _ _ _ _ _ => pg_name (i := 4) nd rfl (by first | exact .inl rfl | exact .inr rfl)) (fun _ _ _ _ _ => pts_nil)
          (fun _ _ _ _ _ => pe_call G2 hr2 (by rfl) a2.m a2.kp a2.b .nil pass0 (pa_cons (pv 2) (pa_cons (pv 4) pa_nil))))
      (pss_cons (ps_for PassesOwn.never rfl (pi_zipS (by rfl) Cc.zip (pa_cons (pv 1) (pa_cons (pv 3) pa_nil))) (pg_tup rfl (pgs_cons (pg_name (i := 4) nd rfl (by first | exact .inl rfl | exact .inr rfl)) (pgs_cons (pg_name (i := 5) nd rfl (by first | exact .inl rfl | exact .inr rfl)) pgs_nil)))
          (pss_one (ps_if (pt_cmpR op_isN (pv 5) pe_non (nomark _)) (pss_one (ps_ret (pe_tup (pa_cons pe_str (pa_cons (pv 4) pa_nil))))) pss_nil)))
      (pss_one (ps_ret (pe_tup (pa_cons pe_str (pa_cons (pe_tupleOf (by rfl) Cc.tuple (pv 3)) pa_nil)))))))), ?_⟩
    have l1 := o1.few nk.nd nk.k6
    have l2 := o2.few nk.nd nk.k6
    have z6 := nk.k6
    refine ⟨_, rfl, _, rfl, c, t, zs, one, rfl, ca, nk, ht, o1, fun H1 s1 => ?_⟩
    refine ⟨_, rfl, _, rfl, c, u, zs, two, rfl, ca.same' s1, nk, hu.same s1, o2, fun H2 s2 => ?_⟩
    have s12 := s1.trans s2
    obtain ⟨ts, et, pt⟩ := ht.same s12
    have hu2 := hu.same s12
    have tl := paired_len pt
    obtain ⟨ks, rfl, rfl, tps⟩ := rows_addrF pt
    have kl : ks.length < 64 := by rw [List.length_map] at l1; exact l1
    refine ⟨_, rfl, t, rfl, ⟨_, SqT.of et⟩, fun D nD => lc_relQ (walk_tup (a := t) (xs := ks.map fun y => V.ref y.1)) nD ks (fun y => V.ref y.1) (fun y => y.2) (RelNo two) (fun _ _ _ _ _ r => r) rfl (by omega) (fun H s => sqT_same s (SqT.of et)) ?_ ?_⟩
    · rintro i y H3 R hy s3 kk
      have ey := s3 _ _ (tps y (List.mem_of_getElem? hy))
      exact ⟨rfl, _, rfl, _, rfl, u, y.1, two, y.2, rfl, hu2.same s3, by omega, fun r hr => Nat.le_trans (o2.sub r hr).length_le z6, SqT.of ey, fun hb H4 s4 => kk _ _ s4 (.inl ⟨rfl, hb⟩), fun m r H4 hm hi s4 => kk _ _ s4 (.inr ⟨m, r, rfl, hm, hi⟩)⟩
    intro H3 vs s3 eD pv3
    have vl : vs.length = ks.length := by rw [paired_len pv3, List.length_map]
    have et3 := s3 _ _ et
    refine ⟨_, rfl, _, rfl, .tup t, .lst D, _, vs, rfl, SqT.of et3, SqL.of eD, for_it (walk_zipS (n := ks.length) (by rw [List.length_map, vl, Nat.min_self])) (fun i σ H' => ∃ u4 u5, σ = [some (V.ref c), some (V.ref t), some (V.ref u), some (V.ref D), u4, u5] ∧ Same H3 H' ∧ ∀ v ∈ vs.take i, v ≠ .non) ⟨none, none, rfl, Same.refl _, by simp⟩ (fun i σ H' _ ⟨_, _, _, s', _⟩ => ⟨SqT.of (s' _ _ et3), SqL.of (s' _ _ eD)⟩) ?_ ?_⟩
    · rintro i x σ H4 H5 hi ⟨u4, u5, rfl, s4, nn⟩ ⟨t2, a, v, rfl, nt, rfl, e1, e2⟩
      obtain ⟨y, hy⟩ : ∃ y, ks[i]? = some y := ⟨_, List.getElem?_eq_getElem hi⟩
      obtain rfl : V.ref y.1 = a := by
        have e1 : (ks.map fun y => V.ref y.1)[i]? = some a := e1
        rw [List.getElem?_map, hy] at e1
        exact Option.some.inj e1
      have e2 : vs[i]? = some v := e2
      have s5 := s4.trans (same_new (o := HO.tup [.ref y.1, v]) nt)
      refine ⟨t2, _, rfl, SqT.of upd_same, rfl, _, _, rfl, _, _, rfl, rfl, ?_⟩
      have rel : RelNo two H3 v y.2 := by
        have hb : (ks.map fun y => y.2)[i]? = some y.2 := by rw [List.getElem?_map, hy]; rfl
        obtain ⟨v', hv', h⟩ := paired_get pv3 hb
        rw [e2] at hv'
        rw [Option.some.inj hv']
        exact h
      refine ⟨_, rfl, rfl, _, rfl, ?_⟩
      rcases rel with ⟨rfl, hb⟩ | ⟨m, s0, rfl, hm, hi0⟩
      · refine iteA rfl ⟨_, rfl, few_ok rfl, fun q nq => ?_⟩
        have s6 := s5.trans (same_new (o := HO.tup [.str "parts", .ref y.1]) nq)
        have yin : y.2 ∈ ks.map fun y => y.2 := List.mem_map.mpr ⟨y, List.mem_of_getElem? hy, rfl⟩
        exact k q _ (s12.trans (s3.trans s6)) (.inl ⟨y.1, y.2, yin, hb, upd_same, s6 _ _ (s3 _ _ (tps y (List.mem_of_getElem? hy)))⟩)
      · refine iteB rfl ⟨_, _, rfl, s5, fun x hx => ?_⟩
        rw [List.take_add_one, e2] at hx
        rcases List.mem_append.mp hx with hx | hx
        · exact nn x hx
        · have : x = .int (m : Int) := by simpa using hx
          rw [this]
          exact fun z => by cases z
    · rintro σ H4 ⟨u4, u5, rfl, s4, nn⟩
      rw [← vl, List.take_length] at nn
      obtain ⟨hb, ms, e, ml, g⟩ := nums_of pv3 nn
      subst e
      refine ⟨_, rfl, .inl ⟨D, _, rfl, SqL.of (s4 _ _ eD), fun p np => ⟨few_ok rfl, fun q nq => ?_⟩⟩⟩
      have s5 := s4.trans (same_new (o := HO.tup (ms.map fun m : Nat => V.int (m : Int))) np)
      have s6 := same_new (o := HO.tup [.str "within", .ref p]) nq
      exact k q _ (s12.trans (s3.trans (s5.trans s6))) (.inr ⟨hb, p, ms, upd_same, s6 _ _ upd_same, ml, g⟩)
/-! ### shows_within -/
def spShowsW (C : Addr) : Sp := fun vs H Q _ => ∃ (c t u q : Addr) (zs : List Str) (one two : List (List Str)), vs = [.ref c, .ref t, .ref u, .ref q] ∧ CircAt H C c zs ∧ NmOk zs ∧ FamAt H t one ∧ FamAt H u two ∧ FamOk zs one ∧ FamOk zs two ∧ WthAt H q one two ∧ ∀ H', Same H H' → Q (.bl true) H'
abbrev nmSw : List Str := ["circle", "one", "other", "value", "lot", "number"]
theorem scShowsW : FnScope nmSw ["circle", "one", "other", "value"] (defScope sShowsW) := ⟨rfl, rfl, rfl, by decide +kernel, rfl, by decide +kernel, by decide +kernel⟩
theorem ok_showsW {C f1 f2 f3 f4 f5 f6 : Addr} {fd1 fd2 fd3 fd4 fd5 fd6 : FuncData} (F : Fun K "shows_within" "shows_within" sShowsW f fd) (T : Bl mg) (Cc : Cn mg)
    (G1 : FnOk P w K mg base CX0 6 f1 fd1 ["circle", "value"] (spRefFam C)) (a1 : At K mg "refuse_family" f1 fd1 ["circle", "value"])
    (G2 : FnOk P w K mg base CX0 1 f2 fd2 ["circle", "value"] (spIsLot C)) (a2 : At K mg "is_lot" f2 fd2 ["circle", "value"])
    (G3 : FnOk P w K mg base CX0 2 f3 fd3 ["value", "word", "many"] spIsTold) (a3 : At K mg "is_told" f3 fd3 ["value", "word", "many"])
    (G4 : FnOk P w K mg base CX0 4 f4 fd4 ["some", "lot", "value"] (spInN K)) (a4 : At K mg "is_number_within" f4 fd4 ["some", "lot", "value"])
    (G5 : FnOk P w K mg base CX0 1 f5 fd5 ["value", "many"] spIsRow) (a5 : At K mg "is_row" f5 fd5 ["value", "many"])
    (G6 : FnOk P w K mg base CX0 3 f6 fd6 ["some", "lot"] (spHasOneT K)) (a6 : At K mg "has_one" f6 fd6 ["some", "lot"]) :
    FnOk P w K mg base CX0 7 f fd ["circle", "one", "other", "value"] (spShowsW C) := by
  refine F.ok scShowsW (fun vs H Q E h => ?_) (fun cdv A outer s H vs Q E hr h => ?_)
  · obtain ⟨c, t, u, q, zs, one, two, rfl, _⟩ := h
    rfl
  · obtain ⟨c, t, u, q, zs, one, two, rfl, ca, nk, ht, hu, o1, o2, wth, k⟩ := h
    have nd := scShowsW.nd
    have hr1 : Room 1 _ := hr.mono (by decide)
    have hr2 : Room 2 _ := hr.mono (by decide)
    have hr3 : Room 3 _ := hr.mono (by decide)
    have hr4 : Room 4 _ := hr.mono (by decide)
    refine ⟨_, pss_cons (ps_expr (pe_call G1 hr (by rfl) a1.m a1.kp a1.b .nil pass0 (pa_cons (pv 0) (pa_cons (pv 1) pa_nil))))
      (pss_cons (ps_expr (pe_call G1 hr (by rfl) a1.m a1.kp a1.b .nil pass0 (pa_cons (pv 0) (pa_cons (pv 2) pa_nil))))
      (pss_cons (ps_if (pt_val (pe_call G3 hr2 (by rfl) a3.m a3.kp a3.b .nil pass0 (pa_cons (pv 3) (pa_cons pe_str (pa_cons pe_int pa_nil)))))
          (pss_one (ps_ret (pe_and (pe_call G2 hr1 (by rfl) a2.m a2.kp a2.b .nil pass0 (pa_cons (pv 0) (pa_cons (pe_ix ix_tup (pv 3) pe_int (fun _ _ => rfl)) pa_nil)))
            (pe_and (pe_call G6 hr3 (by rfl) a6.m a6.kp a6.b .nil pass0 (pa_cons (pv 1) (pa_cons (pe_ix ix_tup (pv 3) pe_int (fun _ _ => rfl)) pa_nil)))
              (pe_one (pe_not (pe_call G6 hr3 (by rfl) a6.m a6.kp a6.b .nil pass0 (pa_cons (pv 2) (pa_cons (pe_ix ix_tup (pv 3) pe_int (fun _ _ => rfl)) pa_nil))))))))) pss_nil)
      (pss_cons (ps_if (PW.pt (pw_or (pt_not (pt_val (pe_call G3 hr2 (by rfl) a3.m a3.kp a3.b .nil pass0 (pa_cons (pv 3) (pa_cons pe_str (pa_cons pe_int pa_nil))))))
          (pw_or1 (pt_not (pt_val (pe_call G5 hr1 (by rfl) a5.m a5.kp a5.b .nil pass0 (pa_cons (pe_ix ix_tup (pv 3) pe_int (fun _ _ => rfl)) (pa_cons (pe_callB call_len_seq (by rfl) T.len PySem.boot_len (pa_cons (pv 1) pa_nil)) pa_nil)))))))) pss_no pss_nil)
      (pss_one (ps_ret (pe_callB (cr_all rfl) (by rfl) T.all boot_all (pa_cons (pe_lc (own := [("lot", 4), ("number", 5)]) (g := gTup K 2 (gCons (gName 4) (gCons (gName 5) gNil))) (tt := tYes) (te := tCall (spInN K) [] E0 (tCons (tVar 2) (tCons (tVar 4) (tCons (tVar 5) tNil)))) rfl nd (pi_zipS (by rfl) Cc.zip (pa_cons (pv 1) (pa_cons (pe_ix ix_tup (pv 3) pe_int (fun _ _ => rfl)) pa_nil)))
          (blkOk_by (N := nmSw) (sc := defScope sShowsW) (by decide +kernel)) (fun _ _ _ _ _ => pg_tup rfl (pgs_cons (pg_name (i := 4) nd rfl (by first | exact .inl rfl | exact .inr rfl)) (pgs_cons (pg_name (i := 5) nd rfl (by first | exact .inl rfl | exact .inr rfl)) pgs_nil))) (fun _ _ _ _ _ => pts_nil)
          (fun _ _ _ _ _ => pe_call G4 hr4 (by rfl) a4.m a4.kp a4.b .nil pass0 (pa_cons (pv 2) (pa_cons (pv 4) (pa_cons (pv 5) pa_nil))))) pa_nil))))))), ?_⟩
    have l1 := o1.few nk.nd nk.k6
    have l2 := o2.few nk.nd nk.k6
    have z6 := nk.k6
    have r1 : ∀ r ∈ one, r.length ≤ 6 := fun r hr => Nat.le_trans (o1.sub r hr).length_le z6
    have r2 : ∀ r ∈ two, r.length ≤ 6 := fun r hr => Nat.le_trans (o2.sub r hr).length_le z6
    refine ⟨_, rfl, _, rfl, c, t, zs, one, rfl, ca, nk, ht, o1, fun H1 s1 => ?_⟩
    refine ⟨_, rfl, _, rfl, c, u, zs, two, rfl, ca.same' s1, nk, hu.same s1, o2, fun H2 s2 => ?_⟩
    have s12 := s1.trans s2
    have ht2 := ht.same s12
    have hu2 := hu.same s12
    rcases wth.keep (.of s12) with ⟨p, r, hr', hb, eq, ep⟩ | ⟨hb, v, ms, eq, ev, ml, g⟩
    · refine ⟨_, rfl, q, [.ref p], "parts", "parts", 2, rfl, eq, _, rfl, iteA (told_t _ _) ?_⟩
      refine ⟨_, rfl, _, rfl, q, _, _, _, rfl, rfl, SqT.of eq, atI_nat (j := 1) rfl, c, p, zs, r, rfl, ca.same' s12, .inl ep, o1.sub r hr', nk, fun H3 s3 => ⟨_, rfl, iteT ?_⟩⟩
      refine ⟨_, rfl, _, rfl, q, _, _, _, rfl, rfl, SqT.of (s3 _ _ eq), atI_nat (j := 1) rfl, t, p, one, r, rfl, ht2.same s3, by omega, r1, SqT.of (s3 _ _ ep), fun H4 s4 => ⟨_, rfl, iteA (hasB_iff.mpr ⟨r, hr', inB_refl r⟩) ?_⟩⟩
      have s34 := s3.trans s4
      refine ⟨_, rfl, _, rfl, q, _, _, _, rfl, rfl, SqT.of (s34 _ _ eq), atI_nat (j := 1) rfl, u, p, two, r, rfl, hu2.same s34, by omega, r2, SqT.of (s34 _ _ ep), fun H5 s5 => ?_⟩
      rw [hb]
      exact ⟨_, rfl, k _ (s12.trans (s34.trans s5))⟩
    · refine ⟨_, rfl, q, [.ref v], "within", "parts", 2, rfl, eq, _, rfl, iteB (told_f _ (by decide +kernel)) ?_⟩
      refine ⟨_, rfl, q, [.ref v], "within", "within", 2, rfl, eq, _, rfl, iteB (by rw [told_t]; rfl) ?_⟩
      obtain ⟨ts, et, pt⟩ := id ht2
      have tl := paired_len pt
      refine ⟨_, rfl, q, _, _, _, rfl, rfl, SqT.of eq, atI_nat (j := 1) rfl, _, rfl, t, _, rfl, .inr (SqT.of et), v, _, _, rfl, ev, _, rfl, iteB ?_ ?_⟩
      · rw [List.length_map, ml, tl]
        simp
      refine ⟨_, rfl, _, rfl, q, _, _, _, rfl, rfl, SqT.of eq, atI_nat (j := 1) rfl, .tup t, .tup v, ts, _, rfl, SqT.of et, SqT.of ev, all_pairs (walk_zipS (n := one.length) (by rw [List.length_map, ml, tl, Nat.min_self])) (by omega) (fun H s => ⟨SqT.of (s _ _ et), SqT.of (s _ _ ev)⟩) ?_ fun H3 s3 => k _ (s12.trans s3)⟩
      rintro i T1 a b H3 R hi e1 e2 s3 nT kk
      obtain ⟨m, hm, rfl⟩ : ∃ m, ms[i]? = some m ∧ b = .int (m : Int) := by
        have e2 : (ms.map fun m : Nat => V.int (m : Int))[i]? = some b := e2
        rw [List.getElem?_map] at e2
        obtain ⟨z, h1, h2⟩ := Option.map_eq_some_iff.mp e2
        exact ⟨z, h1, h2.symm⟩
      obtain ⟨r, hr'⟩ : ∃ r, one[i]? = some r := ⟨_, List.getElem?_eq_getElem hi⟩
      obtain ⟨x, hx, p, rfl, ep⟩ := paired_get pt hr'
      obtain rfl : V.ref p = a := Option.some.inj (hx.symm.trans e1)
      obtain ⟨s0, hs0, hi0⟩ := g i m r hm hr'
      have s4 := s3.trans (same_new (o := HO.tup [.ref p, .int (m : Int)]) nT)
      exact ⟨T1, _, rfl, SqT.of upd_same, rfl, _, _, rfl, _, _, rfl, rfl, rfl, _, rfl, _, rfl, _, rfl, u, p, two, r, s0, m, rfl, hu2.same s4, SqT.of (s4 _ _ ep), hs0, hi0, r2 s0 (List.mem_of_getElem? hs0), fun H5 s5 => kk _ s5⟩
end
end K6
set_option Elab.async false
set_option linter.all false
set_option maxRecDepth 100000
set_option maxHeartbeats 1500000
set_option pp.maxSteps 1200
set_option pp.deepTerms false
namespace K6
open PySem PySem.Spec PyProof.Rows L2 Lk
abbrev sLIsLot : Stmt := top 50
abbrev sLHasOne : Stmt := top 51
abbrev sLFam : Stmt := top 52
abbrev sLMemb : Stmt := top 53
abbrev sLNum : Stmt := top 54
section
variable {P : Program} {w : World} {K : PySem.W.Frag} {mg : Str → Option Value} {base : Heap} {f : Addr} {fd : FuncData}
def spLIsLot (K : PySem.W.Frag) : Sp := fun vs H Q _ => ∃ (n d : Addr) (zs row : List Str), vs = [.ref n, .ref d] ∧ SqT K H n (zs.map V.str) ∧ NmOk zs ∧ H d = some (.tup (row.map V.str)) ∧ row.Sublist zs ∧ ∀ H', Same H H' → Q (.bl true) H'
theorem scLIsLot : FnScope ["names", "value", "name"] ["names", "value"] (defScope sLIsLot) := ⟨rfl, rfl, rfl, by decide +kernel, rfl, by decide +kernel, by decide +kernel⟩
theorem ok_lIsLot {f1 : Addr} {fd1 : FuncData} (F : Fun K "_law_is_lot" "_law_is_lot" sLIsLot f fd) (T : Bl mg) (Cc : Cn mg)
    (G1 : FnOk P w K mg base CX0 1 f1 fd1 ["names", "some"] (spLotOf K)) (a1 : At K mg "_law_lot_of" f1 fd1 ["names", "some"]) :
    FnOk P w K mg base CX0 2 f fd ["names", "value"] (spLIsLot K) := by
  refine F.ok scLIsLot (fun vs H Q E h => ?_) (fun cdv A outer s H vs Q E hr h => ?_)
  · obtain ⟨n, d, zs, row, rfl, _⟩ := h
    rfl
  · obtain ⟨n, d, zs, row, rfl, hn, nk, ed, rs, k⟩ := h
    have nd := scLIsLot.nd
    refine ⟨_, pss_cons (ps_if (PW.pt (pw_or (pt_not (pt_val (pe_callB call_isi (by rfl) T.isin boot_isinstance (pa_cons (pv 1) (pa_cons (pe_bltn (v := .ty "tuple") (by rfl) Cc.tuple rfl rfl) pa_nil)))))
          (pw_or1 (pt_not (pt_val (pe_callB (cr_all rfl) (by rfl) T.all boot_all (pa_cons (pe_lc (own := [("name", 2)]) (g := gName 2) (tt := tYes) (te := tCB (rIsi K) (tCons (tVar 2) (tCons (tC (.ty "str")) tNil))) rfl nd (pi_tup (pv 1))
            (blkOk_by (N := ["names", "value", "name"]) (sc := defScope sLIsLot) (by decide +kernel)) (fun _ _ _ _ _ => pg_name (i := 2) nd rfl (.inl rfl)) (fun _ _ _ _ _ => pts_nil)
            (fun _ _ _ _ _ => pe_callB call_isi (by rfl) T.isin boot_isinstance (pa_cons (pv 2) (pa_cons (pe_bltn (v := .ty "str") (by rfl) Cc.str rfl rfl) pa_nil)))) pa_nil))))))) pss_no pss_nil)
      (pss_one (ps_ret (pe_cmpR (op_eqD (room64 hr)) (pv 1) (pe_call G1 hr (by rfl) a1.m a1.kp a1.b .nil pass0 (pa_cons (pv 0) (pa_cons (pv 1) pa_nil))) (nomark _)))), ?_⟩
    have r6 : row.length ≤ 6 := Nat.le_trans rs.length_le nk.k6
    refine ⟨_, rfl, _, _, _, _, true, rfl, .ty _, .base (.tup ed), by rfl, _, rfl, iteB rfl ?_⟩
    refine ⟨_, rfl, d, rfl, ⟨_, SqT.of ed⟩, all_over (walk_tup (a := d) (xs := row.map V.str)) row V.str (fun _ => true) rfl (by omega) (fun H s => sqT_same s (SqT.of ed)) ?_ ?_⟩
    · rintro i b H6 R hb s6 kk
      exact ⟨rfl, _, rfl, _, _, _, _, true, rfl, .ty _, .base (.str _), by rfl, kk _ (Same.refl _)⟩
    · intro H6 s6
      have e : row.all (fun _ => true) = true := List.all_eq_true.mpr fun _ _ => rfl
      rw [e]
      refine ⟨_, rfl, iteB rfl ?_⟩
      have ed6 := s6 _ _ ed
      refine ⟨_, rfl, _, rfl, _, rfl, n, d, zs, row, rfl, .inr (sqT_same s6 hn), .inr (SqT.of ed6), by have := nk.k6; omega, fun p H7 s7 np ep => ?_⟩
      rw [sub_filterG rs nk.nd] at ep
      have nr := nice_lot nk rs
      refine ⟨.tuple (strsD row), .tuple (strsD row), .tup (SqT.of (s7 _ _ ed6)) (dp_strs _), .tup (SqT.of ep) (dp_strs _), nr.shaped (by decide), nr.shaped (by decide), ?_⟩
      rw [nr.eqv]
      exact k _ (s6.trans s7)
def spLeastLG (K : PySem.W.Frag) : Sp := fun vs H Q _ => ∃ (n l : Addr) (zs : List Str) (ts : List V) (sel : List (List Str)), vs = [.ref n, .ref l] ∧ SqT K H n (zs.map V.str) ∧ NmOk zs ∧ H l = some (.lst ts) ∧ Paired (RelT H) ts sel ∧ (∀ r ∈ sel, r.Sublist zs) ∧
  ∀ q us rws H', Same H H' → H' q = some (.tup us) → Paired (RelT H') us (leastF (fun r => decide (r ∈ sel)) rws) → LotsOk zs rws → Q (.ref q) H'
theorem ok_leastLG {f1 f2 : Addr} {fd1 fd2 : FuncData} (F : Fun K "_law_least_lots" "_law_least_lots" sLeastL f fd) (T : Bl mg) (Cc : Cn mg)
    (G1 : FnOk P w K mg base CX0 1 f1 fd1 ["names"] (spAllLots K)) (a1 : At K mg "_law_all_lots" f1 fd1 ["names"])
    (G2 : FnOk P w K mg base CX0 1 f2 fd2 ["one", "other"] (spInside K)) (a2 : At K mg "_law_is_inside" f2 fd2 ["one", "other"]) :
    FnOk P w K mg base CX0 2 f fd ["names", "some"] (spLeastLG K) := by
  refine F.ok scLeastL (fun vs H Q E h => ?_) (fun cdv A outer s H vs Q E hr h => ?_)
  · obtain ⟨n, l, zs, ts, sel, rfl, _⟩ := h
    rfl
  · obtain ⟨n, l, zs, ts, sel, rfl, hn, nk, el, pr, hsub, k⟩ := h
    have nd := scLeastL.nd
    have z6 := nk.k6
    refine ⟨_, pss_cons (ps_set (i := 2) nd rfl (.inl rfl) (pe_lst pa_nil))
      (pss_cons (ps_for PassesOwn.never rfl (pi_list (pe_lc (own := [("lot", 3)]) (g := gName 3) (tt := tTest (tOp (rInD K) (tVar 3) (tVar 1))) (te := tVar 3) rfl nd (pi_list (pe_call G1 hr (by rfl) a1.m a1.kp a1.b .nil pass0 (pa_cons (pv 0) pa_nil)))
              (blkOk_by (N := nmLL) (sc := defScope sLeastL) (by decide +kernel)) (fun _ _ _ _ _ => pg_name (i := 3) nd rfl (.inl rfl)) (fun _ _ _ _ _ => pts_one (pt_cmpR (op_inD (room65 hr)) (pv 3) (pv 1) rfl)) (fun _ _ _ _ _ => pv 3))) (pg_name (i := 3) nd rfl (.inr rfl))
          (pss_one (ps_if (pt_not (pt_val (pe_callB (cr_any rfl) (by rfl) T.any boot_any (pa_cons (pe_lc (own := [("other", 4)]) (g := gName 4) (tt := tYes) (te := tCall (spInside K) [] E0 (tCons (tVar 4) (tCons (tVar 3) tNil))) rfl nd (pi_list (pv 2))
              (blkOk_by (N := nmLL) (sc := defScope sLeastL) (by decide +kernel)) (fun _ _ _ _ _ => pg_name (i := 4) nd rfl (.inl rfl)) (fun _ _ _ _ _ => pts_nil) (fun _ _ _ _ _ => pe_call G2 hr (by rfl) a2.m a2.kp a2.b .nil pass0 (pa_cons (pv 4) (pa_cons (pv 3) pa_nil)))) pa_nil))))
            (pss_one (ps_expr (pe_bm PySem.F.plainAttrs_list PySem.F.slot_list_append PySem.F.type_list_append mt_append (pv 2) (pa_cons (pv 3) pa_nil)))) pss_nil)))
      (pss_one (ps_ret (pe_tupleOf (by rfl) Cc.tuple (pv 2))))), ?_⟩
    refine ⟨few_ok rfl, fun D nD => ?_⟩
    have s1 : Same H (upd H D (.lst [])) := same_new nD
    have eD0 := upd_same (H := H) (a := D) (o := HO.lst [])
    generalize upd H D (.lst []) = H1 at s1 eD0 ⊢
    refine ⟨_, rfl, n, zs, rfl, sqT_same s1 hn, z6, fun E us rws H2 s2 nE eE pu lo => ?_⟩
    have r64 := lots_64 lo z6
    have s12 := s1.trans s2
    have rsub : ∀ x ∈ rws, x.Sublist zs := fun x hx => lots_sub lo hx
    obtain ⟨ws, w1, w2, w3⟩ := paired_zip pu
    have wl : ws.length = rws.length := by rw [← w2, List.length_map]
    have pr2 := rows_keep pr (.of s12)
    have el2 := s12 _ _ el
    have eD2 := s2 _ _ eD0
    refine ⟨E, rfl, ⟨_, SqL.of eE⟩, fun G nG => lc_fm (walk_list (a := E) (xs := us)) ws (fun z => if decide (z.2 ∈ sel) = true then some z.1 else none) (by rw [← w1, List.length_map]) (by rw [← w1, List.length_map]; omega) nG (fun H s => s.seq (SqL.of eE)) ?_ ?_⟩
    · rintro i u ⟨zv0, row⟩ H7 H7' R Rn hz s7 ⟨rfl, hu2⟩ k1 k2
      obtain ⟨t, et, eh⟩ := w3 _ (List.mem_of_getElem? hz)
      dsimp only at et eh
      subst et
      obtain rfl : V.ref t = u := by
        rw [← w1, List.getElem?_map, hz] at hu2
        exact Option.some.inj hu2
      have rm : row ∈ rws := by rw [← w2]; exact List.mem_map.mpr ⟨_, List.mem_of_getElem? hz, rfl⟩
      have nr := nice_lot nk (rsub row rm)
      refine ⟨rfl, _, rfl, _, rfl, .tuple (strsD row), sel.map fun z => .tuple (strsD z), .tup (SqT.of (s7 _ _ eh)) (dp_strs _), .lst (SqL.of (s7 _ _ el2)) (dp_rows (rows_keep pr2 (.of s7))), nr.shaped (by decide), ?_, _, rfl, ?_⟩
      · exact (Nice.lst (c := 6 * (8 + 1)) (k := 1) (m := sel.length) (fun d hd => by
          obtain ⟨z, hz, rfl⟩ := List.mem_map.mp hd
          exact nice_lot nk (hsub z hz)) (by rw [List.length_map]; exact Nat.le_refl _)).shaped (by decide)
      rw [in_rows]
      cases hb : decide (row ∈ sel) with
      | true => exact iteT ⟨_, rfl, k1 _ _ (if_pos hb) (Same.refl _)⟩
      | false => exact iteB rfl (k2 _ (if_neg (by rw [hb]; decide)) (Same.refl _))
    intro H3 s3 eG
    rw [fm_rowsE (fun r => decide (r ∈ sel))] at eG
    have pG : Paired (RelT H3) ((ws.filter fun z => decide (z.2 ∈ sel)).map (·.1)) (rws.filter fun r => decide (r ∈ sel)) := by
      have e : rws.filter (fun r => decide (r ∈ sel)) = (ws.filter fun z => decide (z.2 ∈ sel)).map (·.2) := by
        rw [← w2, List.filter_map]
        rfl
      rw [e]
      exact paired_ofE fun z hz => RelT.keepP (.of s3) _ _ (w3 z (List.mem_filter.mp hz).1)
    generalize (ws.filter fun z => decide (z.2 ∈ sel)).map (·.1) = gs at eG pG
    obtain ⟨rs, hrs⟩ : ∃ rs, rs = rws.filter fun r => decide (r ∈ sel) := ⟨_, rfl⟩
    rw [← hrs] at pG
    have rs64 : rs.length ≤ 64 := by rw [hrs]; exact Nat.le_trans (List.length_filter_le _ _) r64
    have rssub : ∀ x ∈ rs, x.Sublist zs := fun x hx => rsub x (by rw [hrs] at hx; exact (List.mem_filter.mp hx).1)
    have eD3 := s3 _ _ eD2
    have GD : G ≠ D := fun z => by rw [z, eD2] at nG; cases nG
    have s13 := s12.trans s3
    have gl : gs.length = rs.length := paired_len pG
    have far : ∀ {H4 : Hp}, KeepB D H3 H4 → Same H H4 := fun kb b o q => kb _ _ (ne_of_none q nD) (s13 _ _ q)
    clear eE pu w1 w2 w3 wl pr2 el2 nE nG s2 s3 s1 s12 eD0 eD2
    refine ⟨G, rfl, ⟨_, SqL.of eG⟩, for_list (xs := gs) (fun i σ H4 => ∃ (u v : Option V) (ks : List V), σ = [some (.ref n), some (.ref l), some (.ref D), u, v] ∧ H4 D = some (.lst ks) ∧ Paired (RelT H4) ks ((rs.take i).foldl (stepF fun _ => true) []) ∧
      (∀ x ∈ (rs.take i).foldl (stepF fun _ => true) [], x.Sublist zs) ∧ ((rs.take i).foldl (stepF fun _ => true) []).length ≤ i ∧ KeepB D H3 H4) ?_ ?_ ?_ ?_⟩
    · exact ⟨none, none, [], rfl, eD3, .nil, (fun _ h => by cases h), Nat.le_refl _, fun _ _ _ q => q⟩
    · rintro i σ H4 _ ⟨_, _, _, _, _, _, _, _, kb⟩
      exact SqL.of (kb _ _ GD eG)
    · rintro i y σ H4 hy ⟨u, v, ks, rfl, eD, pk, ksub, kl, kb⟩
      obtain ⟨row, hrow⟩ : ∃ row, rs[i]? = some row := ⟨_, List.getElem?_eq_getElem (by rw [← gl]; exact (List.getElem?_eq_some_iff.mp hy).1)⟩
      obtain ⟨v2, hv2, p, rfl, ep⟩ := paired_get pG hrow
      obtain rfl : V.ref p = y := Option.some.inj (hv2.symm.trans hy)
      have i64 : i < 64 := by have := (List.getElem?_eq_some_iff.mp hrow).1; omega
      have pD : p ≠ D := fun z => by rw [z, eD3] at ep; cases ep
      have ep4 := kb _ _ pD ep
      have rs' := rssub row (List.mem_of_getElem? hrow)
      obtain ⟨kept, hkept⟩ : ∃ kept, kept = (rs.take i).foldl (stepF fun _ => true) [] := ⟨_, rfl⟩
      have tk : (rs.take (i + 1)).foldl (stepF fun _ => true) [] = stepF (fun _ => true) kept row := by
        rw [List.take_add_one, hrow, Option.toList_some, List.foldl_append, hkept]
        rfl
      rw [← hkept] at pk ksub kl
      obtain ⟨xs, x1, x2, x3⟩ := paired_zip pk
      have xl : xs.length = kept.length := by rw [← x2, List.length_map]
      refine ⟨_, rfl, D, rfl, ⟨_, SqL.of eD⟩, fun B nB => lc_fm (walk_list (a := D) (xs := ks)) xs (fun z => some (V.bl (z.2.all fun y => decide (y ∈ row)))) (by rw [← x1, List.length_map]) (by rw [← x1, List.length_map]; omega) nB (fun H s => s.seq (SqL.of eD)) ?_ ?_⟩
      · rintro j u ⟨zv0, r0⟩ H7 H7' R Rn hz s7 ⟨rfl, hu2⟩ k1 k2
        obtain ⟨t, et, eh⟩ := x3 _ (List.mem_of_getElem? hz)
        dsimp only at et eh
        subst et
        obtain rfl : V.ref t = u := by
          rw [← x1, List.getElem?_map, hz] at hu2
          exact Option.some.inj hu2
        have rm : r0 ∈ kept := by rw [← x2]; exact List.mem_map.mpr ⟨_, List.mem_of_getElem? hz, rfl⟩
        have := (ksub r0 rm).length_le
        exact ⟨rfl, _, rfl, _, rfl, t, p, r0, row, rfl, SqT.of (s7 _ _ eh), SqT.of (s7 _ _ ep4), by omega, fun H8 s8 => k1 _ _ rfl s8⟩
      intro H5 s5 eB
      rw [fm_some] at eB
      obtain ⟨bs, hbs⟩ : ∃ bs : List Bool, bs = xs.map fun z => z.2.all fun y => decide (y ∈ row) := ⟨_, rfl⟩
      have eb : (xs.map fun z => V.bl (z.2.all fun y => decide (y ∈ row))) = bs.map V.bl := by rw [hbs, List.map_map]; rfl
      rw [eb] at eB
      have hany : bs.any id = hasB kept row := by
        rw [hbs, List.any_map, ← x2]
        unfold hasB
        rw [List.any_map]
        rfl
      refine ⟨B, bs, rfl, SqL.of eB, _, rfl, ?_⟩
      rw [hany]
      have eD5 := s5 _ _ eD
      have kb5 : KeepB D H3 H5 := fun b o nb q => s5 _ _ (kb b o nb q)
      have pk5 := rows_keep pk (.of s5)
      have st : stepF (fun _ => true) kept row = if (!hasB kept row) = true then kept ++ [row] else kept := by
        unfold stepF hasB
        rw [Bool.true_and]
      cases hb : hasB kept row with
      | true =>
        refine iteB rfl ⟨_, _, ks, rfl, eD5, ?_, ?_, ?_, kb5⟩
        · rw [tk, st, hb]; exact pk5
        · rw [tk, st, hb]; exact ksub
        · rw [tk, st, hb]
          show kept.length ≤ _
          omega
      | false =>
        refine iteT ?_
        have ksl : ks.length = kept.length := paired_len pk
        refine ⟨_, rfl, .inl ⟨rfl, _, SqL.of eD5⟩, _, rfl, D, _, _, rfl, rfl, eD5, by rw [sizeLine_eq]; omega, ?_⟩
        have kp : Keep H5 (upd H5 D (.lst (ks ++ [.ref p]))) := .upd eD5
        refine ⟨_, _, ks ++ [.ref p], rfl, upd_same, ?_, ?_, ?_, fun b o nb q => by rw [upd_ne nb]; exact kb5 b o nb q⟩
        · rw [tk, st, hb]
          exact Paired.add (rows_keep pk5 kp) ⟨p, rfl, kp _ _ (s5 _ _ ep4) fun _ z => by cases z⟩
        · rw [tk, st, hb]
          intro x hx
          rcases List.mem_append.mp hx with hx | hx
          · exact ksub x hx
          · rw [List.mem_singleton.mp hx]; exact rs'
        · rw [tk, st, hb]
          show (kept ++ [row]).length ≤ _
          rw [List.length_append]
          show kept.length + 1 ≤ _
          omega
    · rintro σ H4 ⟨u, v, ks, rfl, eD, pk, ksub, kl, kb⟩
      rw [gl, List.take_length] at pk
      have e : rs.foldl (stepF fun _ => true) [] = leastF (fun r => decide (r ∈ sel)) rws := by
        rw [hrs]
        exact leastF_filter _ _
      rw [e] at pk
      refine ⟨_, rfl, .inl ⟨D, _, rfl, SqL.of eD, fun q nq => ?_⟩⟩
      have s4 := same_new (o := HO.tup ks) nq
      exact k q ks rws _ ((far kb).trans s4) upd_same (rows_keep pk (.of s4)) lo
/-! ### _law_has_one, _law_members, _law_is_number -/
def spLHasOne (K : PySem.W.Frag) : Sp := fun vs H Q _ => ∃ (t l : Addr) (rows : List (List Str)) (ys : List Str), vs = [.ref t, .ref l] ∧ FamAt H t rows ∧ rows.length ≤ 100 ∧ (∀ r ∈ rows, r.length ≤ 6) ∧ SqT K H l (ys.map V.str) ∧ ∀ H', Same H H' → Q (.bl (hasB rows ys)) H'
theorem scLHasOne : FnScope ["family", "lot", "one"] ["family", "lot"] (defScope sLHasOne) := ⟨rfl, rfl, rfl, by decide +kernel, rfl, by decide +kernel, by decide +kernel⟩
theorem ok_lHasOne {f1 : Addr} {fd1 : FuncData} (F : Fun K "_law_has_one" "_law_has_one" sLHasOne f fd) (T : Bl mg)
    (G1 : FnOk P w K mg base CX0 1 f1 fd1 ["one", "other"] (spInside K)) (a1 : At K mg "_law_is_inside" f1 fd1 ["one", "other"]) :
    FnOk P w K mg base CX0 2 f fd ["family", "lot"] (spLHasOne K) := by
  refine F.ok scLHasOne (fun vs H Q E h => ?_) (fun cdv A outer s H vs Q E hr h => ?_)
  · obtain ⟨t, l, rows, ys, rfl, _⟩ := h
    rfl
  · obtain ⟨t, l, rows, ys, rfl, ⟨ts, et, pr⟩, few, r6, hl, k⟩ := h
    have nd := scLHasOne.nd
    refine ⟨_, pss_one (ps_ret (pe_callB (cr_any rfl) (by rfl) T.any boot_any (pa_cons (pe_lc (own := [("one", 2)]) (g := gName 2) (tt := tYes) (te := tCall (spInside K) [] E0 (tCons (tVar 2) (tCons (tVar 1) tNil))) rfl nd (pi_tup (pv 0))
          (blkOk_by (N := ["family", "lot", "one"]) (sc := defScope sLHasOne) (by decide +kernel)) (fun _ _ _ _ _ => pg_name (i := 2) nd rfl (by first | exact .inl rfl | exact .inr rfl)) (fun _ _ _ _ _ => pts_nil)
          (fun _ _ _ _ _ => pe_call G1 hr (by rfl) a1.m a1.kp a1.b .nil pass0 (pa_cons (pv 2) (pa_cons (pv 1) pa_nil)))) pa_nil))), ?_⟩
    obtain ⟨ks, rfl, rfl, tps⟩ := rows_addrF pr
    have kl : ks.length ≤ 100 := by rw [List.length_map] at few; exact few
    refine ⟨_, rfl, t, rfl, ⟨_, SqT.of et⟩, fun D nD => lc_fm (walk_tup (a := t) (xs := ks.map fun y => V.ref y.1)) ks (fun y => some (.bl (inB y.2 ys))) (by rw [List.length_map]) (by rw [List.length_map]; omega) nD (fun H s => sqT_same s (SqT.of et)) ?_ ?_⟩
    · rintro i u y H3 H3' R Rn hy s3 ⟨rfl, hu⟩ k1 k2
      obtain rfl : V.ref y.1 = u := by
        rw [List.getElem?_map, hy] at hu
        exact Option.some.inj hu
      have hy' := List.mem_of_getElem? hy
      have yl := r6 y.2 (List.mem_map.mpr ⟨y, hy', rfl⟩)
      exact ⟨rfl, _, rfl, _, rfl, y.1, l, y.2, ys, rfl, SqT.of (s3 _ _ (tps y hy')), sqT_same s3 hl, by omega, fun H4 s4 => k1 _ _ rfl s4⟩
    · intro H3 s3 eD
      have fe : (ks.filterMap fun y => some (V.bl (inB y.2 ys))) = (ks.map fun y => inB y.2 ys).map V.bl := by
        rw [List.map_map]
        simp
      rw [fe] at eD
      refine ⟨D, _, rfl, SqL.of eD, ?_⟩
      have : (ks.map fun y => inB y.2 ys).any id = hasB (ks.map (·.2)) ys := by
        unfold hasB inB
        rw [List.any_map, List.any_map]
        rfl
      rw [this]
      exact k _ s3
def spLMemb (K : PySem.W.Frag) : Sp := fun vs H Q _ => ∃ (n t : Addr) (zs : List Str) (rows : List (List Str)), vs = [.ref n, .ref t] ∧ SqT K H n (zs.map V.str) ∧ zs.length ≤ 6 ∧ FamAt H t rows ∧ rows.length ≤ 100 ∧ (∀ r ∈ rows, r.length ≤ 6) ∧
  ∀ (D : Addr) (ts : List V) (rws : List (List Str)) H', Same H H' → H' D = some (.lst ts) → Paired (RelT H') ts (rws.filter (hasB rows)) → LotsOk zs rws → Q (.ref D) H'
theorem scLMemb : FnScope ["names", "family", "lot"] ["names", "family"] (defScope sLMemb) := ⟨rfl, rfl, rfl, by decide +kernel, rfl, by decide +kernel, by decide +kernel⟩
theorem ok_lMemb {f1 f2 : Addr} {fd1 fd2 : FuncData} (F : Fun K "_law_members" "_law_members" sLMemb f fd)
    (G1 : FnOk P w K mg base CX0 1 f1 fd1 ["names"] (spAllLots K)) (a1 : At K mg "_law_all_lots" f1 fd1 ["names"])
    (G2 : FnOk P w K mg base CX0 2 f2 fd2 ["family", "lot"] (spLHasOne K)) (a2 : At K mg "_law_has_one" f2 fd2 ["family", "lot"]) :
    FnOk P w K mg base CX0 3 f fd ["names", "family"] (spLMemb K) := by
  refine F.ok scLMemb (fun vs H Q E h => ?_) (fun cdv A outer s H vs Q E hr h => ?_)
  · obtain ⟨n, t, zs, rows, rfl, _⟩ := h
    rfl
  · obtain ⟨n, t, zs, rows, rfl, hn, z6, ht, few, r6, k⟩ := h
    have nd := scLMemb.nd
    have hr1 : Room 1 _ := hr.mono (by decide)
    refine ⟨_, pss_one (ps_ret (pe_lc (own := [("lot", 2)]) (g := gName 2) (tt := tTest (tCall (spLHasOne K) [] E0 (tCons (tVar 1) (tCons (tVar 2) tNil)))) (te := tVar 2) rfl nd (pi_list (pe_call G1 hr1 (by rfl) a1.m a1.kp a1.b .nil pass0 (pa_cons (pv 0) pa_nil)))
          (blkOk_by (N := ["names", "family", "lot"]) (sc := defScope sLMemb) (by decide +kernel)) (fun _ _ _ _ _ => pg_name (i := 2) nd rfl (by first | exact .inl rfl | exact .inr rfl)) (fun _ _ _ _ _ => pts_one (pt_val (pe_call G2 hr (by rfl) a2.m a2.kp a2.b .nil pass0 (pa_cons (pv 1) (pa_cons (pv 2) pa_nil)))))
          (fun _ _ _ _ _ => pv 2))), ?_⟩
    refine ⟨_, rfl, n, zs, rfl, hn, z6, fun D0 us rws H2 s2 nD0 eD0 pu lo => ?_⟩
    have r64 := lots_64 lo z6
    have ht2 := ht.same s2
    obtain ⟨ws, w1, w2, w3⟩ := paired_zip pu
    have wl : ws.length = rws.length := by rw [← w2, List.length_map]
    refine ⟨D0, rfl, ⟨_, SqL.of eD0⟩, fun D nD => lc_fm (walk_list (a := D0) (xs := us)) ws (fun z => if hasB rows z.2 = true then some z.1 else none) (by rw [← w1, List.length_map]) (by rw [← w1, List.length_map]; omega) nD (fun H s => s.seq (SqL.of eD0)) ?_ ?_⟩
    · rintro i u ⟨zv, row⟩ H3 H3' R Rn hz s3 ⟨rfl, hu⟩ k1 k2
      obtain ⟨p, ez, ep⟩ := w3 _ (List.mem_of_getElem? hz)
      dsimp only at ez ep
      subst ez
      obtain rfl : V.ref p = u := by
        rw [← w1, List.getElem?_map, hz] at hu
        exact Option.some.inj hu
      refine ⟨rfl, _, rfl, _, rfl, t, p, rows, row, rfl, ht2.same s3, few, r6, SqT.of (s3 _ _ ep), fun H4 s4 => ⟨_, rfl, ?_⟩⟩
      cases hb : hasB rows row with
      | true => exact iteT ⟨_, rfl, k1 _ _ (if_pos hb) s4⟩
      | false => exact iteB rfl (k2 _ (if_neg (by rw [hb]; decide)) s4)
    · intro H3 s3 eD
      rw [fm_rowsE (hasB rows)] at eD
      refine k D _ rws _ (s2.trans s3) eD ?_ lo
      have e : rws.filter (hasB rows) = (ws.filter fun z => hasB rows z.2).map (·.2) := by
        rw [← w2, List.filter_map]
        rfl
      rw [e]
      exact paired_ofE fun z hz => RelT.keepP (.of s3) _ _ (w3 z (List.mem_filter.mp hz).1)
def spLNum : Sp := fun vs H Q _ => ∃ (m n : Nat), vs = [.int (m : Int), .int (n : Int)] ∧ m < n ∧ Q (.bl true) H
theorem scLNum : FnScope ["value", "upto"] ["value", "upto"] (defScope sLNum) := ⟨rfl, rfl, rfl, by decide +kernel, rfl, by decide +kernel, by decide +kernel⟩
end
end K6
set_option Elab.async false
set_option linter.all false
set_option maxRecDepth 100000
set_option maxHeartbeats 1500000
set_option pp.maxSteps 1200
set_option pp.deepTerms false
namespace K6
open PySem PySem.Spec PyProof.Rows L2 Lk
abbrev sLHasR : Stmt := top 55
abbrev sLWthR : Stmt := top 56
section
variable {P : Program} {w : World} {K : PySem.W.Frag} {mg : Str → Option Value} {base : Heap} {f : Addr} {fd : FuncData}
theorem ok_lNum (F : Fun K "_law_is_number" "_law_is_number" sLNum f fd) (T : Bl mg) (hB : mg "bool" = none) : FnOk P w K mg base CX0 1 f fd ["value", "upto"] spLNum := by
  refine F.ok scLNum (fun vs H Q E h => ?_) (fun cdv A outer s H vs Q E hr h => ?_)
  · obtain ⟨m, n, rfl, _⟩ := h
    rfl
  · obtain ⟨m, n, rfl, lt, k⟩ := h
    refine ⟨_, pss_one (ps_ret (pe_and (pe_callB call_isi (by rfl) T.isin boot_isinstance (pa_cons (pv 0) (pa_cons (pe_bltn (v := .ty "int") (by rfl) T.int rfl rfl) pa_nil)))
      (pe_and (pe_not (pe_callB call_isi (by rfl) T.isin boot_isinstance (pa_cons (pv 0) (pa_cons (pe_bltn (v := .ty "bool") (by rfl) hB rfl rfl) pa_nil)))) (pe_one (pe_chain op_le op_lt pe_int (pv 0) (pv 1)))))), ?_⟩
    refine ⟨_, rfl, _, _, _, _, true, rfl, .ty _, .base (.int _), by rfl, _, rfl, iteT ?_⟩
    refine ⟨_, rfl, _, _, _, _, false, rfl, .ty _, .base (.int _), by rfl, _, rfl, _, rfl, iteT ?_⟩
    refine ⟨_, rfl, _, _, rfl, rfl, _, rfl, iteA (decide_eq_true (by omega)) ⟨_, rfl, _, _, rfl, rfl, ?_⟩⟩
    show Q (.bl (decide ((m : Int) < (n : Int)))) H
    rw [decide_eq_true (by omega)]
    exact k
/-! ### _law_is_has_right -/
def spLHasR (C : Addr) : Sp := fun vs H Q _ => ∃ (c t l : Addr) (zs ys : List Str) (rows : List (List Str)), vs = [.ref c, .ref t, .ref l] ∧ CircAt H C c zs ∧ NmOk zs ∧ FamAt H t rows ∧ FamOk zs rows ∧ LotE H l ys ∧ ys.Sublist zs ∧ ∀ H', Same H H' → Q (.bl true) H'
abbrev nmHR : List Str := ["ring", "family", "lot", "tale", "name", "one"]
theorem scLHasR : FnScope nmHR ["ring", "family", "lot"] (defScope sLHasR) := ⟨rfl, rfl, rfl, by decide +kernel, rfl, by decide +kernel, by decide +kernel⟩
theorem ok_lHasR {C f1 f2 f3 f4 f5 : Addr} {fd1 fd2 fd3 fd4 fd5 : FuncData} (F : Fun K "_law_is_has_right" "_law_is_has_right" sLHasR f fd) (T : Bl mg) (Cc : Cn mg)
    (G1 : FnOk P w K mg base CX0 7 f1 fd1 ["circle", "family", "lot"] (spHas K C)) (a1 : At K mg "has" f1 fd1 ["circle", "family", "lot"])
    (G2 : FnOk P w K mg base CX0 7 f2 fd2 ["circle", "family", "lot", "value"] (spShowsHas K C)) (a2 : At K mg "shows_has" f2 fd2 ["circle", "family", "lot", "value"])
    (G3 : FnOk P w K mg base CX0 2 f3 fd3 ["family", "lot"] (spLHasOne K)) (a3 : At K mg "_law_has_one" f3 fd3 ["family", "lot"])
    (G4 : FnOk P w K mg base CX0 1 f4 fd4 ["value", "upto"] spLNum) (a4 : At K mg "_law_is_number" f4 fd4 ["value", "upto"])
    (G5 : FnOk P w K mg base CX0 1 f5 fd5 ["one", "other"] (spInside K)) (a5 : At K mg "_law_is_inside" f5 fd5 ["one", "other"]) :
    FnOk P w K mg base CX0 8 f fd ["ring", "family", "lot"] (spLHasR C) := by
  refine F.ok scLHasR (fun vs H Q E h => ?_) (fun cdv A outer s H vs Q E hr h => ?_)
  · obtain ⟨c, t, l, zs, ys, rows, rfl, _⟩ := h
    rfl
  · obtain ⟨c, t, l, zs, ys, rows, rfl, ca, nk, ht, fam, hl, ysub, k⟩ := h
    have nd := scLHasR.nd
    have hr1 : Room 1 _ := hr.mono (by decide)
    have hr2 : Room 2 _ := hr.mono (by decide)
    refine ⟨_, pss_cons (ps_set (i := 3) nd rfl (by first | exact .inl rfl | exact .inr rfl) (pe_call G1 hr (by rfl) a1.m a1.kp a1.b .nil pass0 (pa_cons (pv 0) (pa_cons (pv 1) (pa_cons (pv 2) pa_nil)))))
      (pss_cons (ps_if (PW.pt (pw_or (pt_cmpR op_isnot_bl (pe_call G2 hr (by rfl) a2.m a2.kp a2.b .nil pass0 (pa_cons (pv 0) (pa_cons (pv 1) (pa_cons (pv 2) (pa_cons (pv 3) pa_nil))))) pe_bl (nomark _))
          (pw_or1 (pt_cmpR op_ne (pe_callB call_len_seq (by rfl) T.len PySem.boot_len (pa_cons (pv 3) pa_nil)) pe_int (nomark _))))) pss_no pss_nil)
      (pss_cons (ps_if (pt_val (pe_call G3 hr2 (by rfl) a3.m a3.kp a3.b .nil pass0 (pa_cons (pv 1) (pa_cons (pv 2) pa_nil))))
          (pss_one (ps_ret (pe_and (pe_cmpR op_eq (pe_ix ix_tup (pv 3) pe_int (fun _ _ => rfl)) pe_str (nomark _))
            (pe_and (pe_call G4 hr1 (by rfl) a4.m a4.kp a4.b .nil pass0 (pa_cons (pe_ix ix_tup (pv 3) pe_int (fun _ _ => rfl)) (pa_cons (pe_callB call_len_seq (by rfl) T.len PySem.boot_len (pa_cons (pv 1) pa_nil)) pa_nil)))
              (pe_one (pe_call G5 hr1 (by rfl) a5.m a5.kp a5.b .nil pass0 (pa_cons (pe_ix ix_tup (pv 1) (pe_ix ix_tup (pv 3) pe_int (fun _ _ => rfl)) (fun _ _ => rfl)) (pa_cons (pv 2) pa_nil)))))))) pss_nil)
      (pss_cons (ps_if (PW.pt (pw_or (pt_cmpR op_ne (pe_ix ix_tup (pv 3) pe_int (fun _ _ => rfl)) pe_str (nomark _))
          (pw_or1 (pt_cmpR op_ne (pe_callB call_len_seq (by rfl) T.len PySem.boot_len (pa_cons (pe_ix ix_tup (pv 3) pe_int (fun _ _ => rfl)) pa_nil)) (pe_callB call_len_seq (by rfl) T.len PySem.boot_len (pa_cons (pv 1) pa_nil)) (nomark _))))) pss_no pss_nil)
      (pss_one (ps_ret (pe_callB (cr_all rfl) (by rfl) T.all boot_all (pa_cons (pe_lc (own := [("name", 4), ("one", 5)]) (g := gTup K 2 (gCons (gName 4) (gCons (gName 5) gNil))) (tt := tYes) (te := tAndV (tOp (rIn K false) (tVar 4) (tVar 5)) (tOp (rIn K true) (tVar 4) (tVar 2))) rfl nd (pi_zipS (by rfl) Cc.zip (pa_cons (pe_ix ix_tup (pv 3) pe_int (fun _ _ => rfl)) (pa_cons (pv 1) pa_nil)))
          (blkOk_by (N := nmHR) (sc := defScope sLHasR) (by decide +kernel)) (fun _ _ _ _ _ => pg_tup rfl (pgs_cons (pg_name (i := 4) nd rfl (by first | exact .inl rfl | exact .inr rfl)) (pgs_cons (pg_name (i := 5) nd rfl (by first | exact .inl rfl | exact .inr rfl)) pgs_nil))) (fun _ _ _ _ _ => pts_nil)
          (fun _ _ _ _ _ => pe_and (pe_cmpR op_in_seq (pv 4) (pv 5) rfl) (pe_one (pe_cmpR op_notIn_seq (pv 4) (pv 2) rfl)))) pa_nil))))))), ?_⟩
    have few := fam.few nk.nd nk.k6
    have z6 := nk.k6
    have r6 : ∀ r ∈ rows, r.length ≤ 6 := fun r hr => Nat.le_trans (fam.sub r hr).length_le z6
    refine ⟨_, rfl, _, rfl, _, rfl, c, t, l, zs, ys, rows, rfl, ca, nk, ht, fam, hl, ysub, fun q H1 s1 has => ?_⟩
    refine ⟨_, rfl, _, rfl, _, rfl, _, rfl, c, t, l, q, zs, ys, rows, rfl, ca.same' s1, nk, ht.same s1, fam, hl.same s1, ysub, has, fun H2 s2 => ⟨true, true, rfl, rfl, _, rfl, iteB rfl ?_⟩⟩
    have s12 := s1.trans s2
    have ht2 := ht.same s12
    have hl2 := hl.same s12
    obtain ⟨ts, et, pr⟩ := id ht2
    have tl := paired_len pr
    rcases has.keep (.of s2) with ⟨i, r, hr', hi, eq⟩ | ⟨hb, u, ws, eq, eu, wl, wr⟩
    · have il : i < rows.length := (List.getElem?_eq_some_iff.mp hr').1
      refine ⟨_, rfl, q, _, rfl, .inr (SqT.of eq), rfl, _, rfl, iteB rfl ?_⟩
      refine ⟨_, rfl, _, rfl, t, l, rows, ys, rfl, ht2, by omega, r6, hl2.sq, fun H3 s3 => ⟨_, rfl, iteA (hasB_iff.mpr ⟨r, List.mem_of_getElem? hr', hi⟩) ?_⟩⟩
      obtain ⟨x, hx, p, rfl, ep⟩ := paired_get pr hr'
      have eq3 := s3 _ _ eq
      refine ⟨_, rfl, q, _, _, _, rfl, rfl, SqT.of eq3, at0 rfl, rfl, _, rfl, iteA (by decide +kernel) ?_⟩
      refine ⟨_, rfl, q, _, _, _, rfl, rfl, SqT.of eq3, atI_nat (j := 1) rfl, _, rfl, t, _, rfl, .inr (SqT.of (s3 _ _ et)), i, ts.length, rfl, by omega, _, rfl, iteT ?_⟩
      refine ⟨_, rfl, _, rfl, q, _, _, _, rfl, rfl, SqT.of eq3, atI_nat (j := 1) rfl, t, _, _, _, rfl, rfl, SqT.of (s3 _ _ et), atI_nat hx, _, rfl, p, l, r, ys, rfl, SqT.of (s3 _ _ ep), (hl2.same s3).sq, by have := r6 r (List.mem_of_getElem? hr'); omega, fun H4 s4 => ?_⟩
      rw [show (r.all fun y => decide (y ∈ ys)) = true from hi]
      exact k _ (s12.trans (s3.trans s4))
    · refine ⟨_, rfl, q, _, rfl, .inr (SqT.of eq), rfl, _, rfl, iteB rfl ?_⟩
      refine ⟨_, rfl, _, rfl, t, l, rows, ys, rfl, ht2, by omega, r6, hl2.sq, fun H3 s3 => ⟨_, rfl, iteB hb ?_⟩⟩
      have eq3 := s3 _ _ eq
      refine ⟨_, rfl, q, _, _, _, rfl, rfl, SqT.of eq3, at0 rfl, rfl, _, rfl, iteB (by decide +kernel) ?_⟩
      refine ⟨_, rfl, q, _, _, _, rfl, rfl, SqT.of eq3, atI_nat (j := 1) rfl, u, _, rfl, .inr (SqT.of (s3 _ _ eu)), _, rfl, t, _, rfl, .inr (SqT.of (s3 _ _ et)), rfl, _, rfl, iteB ?_ ?_⟩
      · rw [List.length_map, wl, tl]
        simp
      refine ⟨_, rfl, q, _, _, _, rfl, rfl, SqT.of eq3, atI_nat (j := 1) rfl, _, rfl, .tup u, .tup t, ws.map V.str, ts, rfl, SqT.of (s3 _ _ eu), SqT.of (s3 _ _ et), all_pairs (walk_zipS (n := rows.length) (by rw [List.length_map, wl, tl, Nat.min_self])) (by omega) (fun H s => ⟨SqT.of (s _ _ (s3 _ _ eu)), SqT.of (s _ _ (s3 _ _ et))⟩) ?_ fun H4 s4 => k _ (s12.trans (s3.trans s4))⟩
      rintro i T1 a b H4 R hi e1 e2 s4 nT kk
      obtain ⟨wd, hwd, rfl⟩ : ∃ wd, ws[i]? = some wd ∧ a = .str wd := by
        have e1 : (ws.map V.str)[i]? = some a := e1
        rw [List.getElem?_map] at e1
        obtain ⟨z, h1, h2⟩ := Option.map_eq_some_iff.mp e1
        exact ⟨z, h1, h2.symm⟩
      obtain ⟨r, hr'⟩ : ∃ r, rows[i]? = some r := ⟨_, List.getElem?_eq_getElem hi⟩
      obtain ⟨v, hv, p, rfl, ep⟩ := paired_get pr hr'
      obtain rfl : V.ref p = b := Option.some.inj (hv.symm.trans e2)
      obtain ⟨w1, w2⟩ := wr i wd r hwd hr'
      have s5 := s3.trans (s4.trans (same_new (o := HO.tup [.str wd, .ref p]) nT))
      refine ⟨T1, _, rfl, SqT.of upd_same, rfl, _, _, rfl, _, _, rfl, rfl, rfl, _, rfl, _, rfl, p, _, rfl, .inr (SqT.of (s5 _ _ ep)), rfl, flat_strs _, _, rfl, ?_⟩
      rw [inV_str]
      refine iteA (by simp [w1]) ?_
      refine ⟨_, rfl, _, rfl, l, _, rfl, .inr ((hl2.same s5).sq), rfl, flat_strs _, ?_⟩
      rw [inV_str, show (if true = true then !decide (wd ∈ ys) else decide (wd ∈ ys)) = true by simp [w2]]
      exact kk _ (Same.refl _)
end
end K6
set_option Elab.async false
set_option linter.all false
set_option maxRecDepth 100000
set_option maxHeartbeats 1500000
set_option pp.maxSteps 1200
set_option pp.deepTerms false
namespace K6
open PySem PySem.Spec PyProof.Rows L2 Lk
section
variable {P : Program} {w : World} {K : PySem.W.Frag} {mg : Str → Option Value} {base : Heap} {f : Addr} {fd : FuncData}
/-! ### _law_is_within_right -/
def spLWthR (K : PySem.W.Frag) (C : Addr) : Sp := fun vs H Q _ => ∃ (n c t u : Addr) (zs : List Str) (one two : List (List Str)), vs = [.ref n, .ref c, .ref t, .ref u] ∧ TupX H n (zs.map V.str) ∧ CircAt H C c zs ∧ NmOk zs ∧ FamAt H t one ∧ FamAt H u two ∧ FamOk zs one ∧ FamOk zs two ∧ ∀ H', Same H H' → Q (.bl true) H'
abbrev nmWR : List Str := ["names", "ring", "one", "far", "tale", "is_in", "lot", "at"]
theorem scLWthR : FnScope nmWR ["names", "ring", "one", "far"] (defScope sLWthR) := ⟨rfl, rfl, rfl, by decide +kernel, rfl, by decide +kernel, by decide +kernel⟩
theorem ok_lWthR {C f1 f2 f3 f4 f5 f6 : Addr} {fd1 fd2 fd3 fd4 fd5 fd6 : FuncData} (F : Fun K "_law_is_within_right" "_law_is_within_right" sLWthR f fd) (T : Bl mg) (Cc : Cn mg)
    (G1 : FnOk P w K mg base CX0 7 f1 fd1 ["circle", "one", "other"] (spWithinF C)) (a1 : At K mg "within" f1 fd1 ["circle", "one", "other"])
    (G2 : FnOk P w K mg base CX0 7 f2 fd2 ["circle", "one", "other", "value"] (spShowsW C)) (a2 : At K mg "shows_within" f2 fd2 ["circle", "one", "other", "value"])
    (G3 : FnOk P w K mg base CX0 2 f3 fd3 ["family", "lot"] (spLHasOne K)) (a3 : At K mg "_law_has_one" f3 fd3 ["family", "lot"])
    (G4 : FnOk P w K mg base CX0 1 f4 fd4 ["value", "upto"] spLNum) (a4 : At K mg "_law_is_number" f4 fd4 ["value", "upto"])
    (G5 : FnOk P w K mg base CX0 1 f5 fd5 ["one", "other"] (spInside K)) (a5 : At K mg "_law_is_inside" f5 fd5 ["one", "other"])
    (G6 : FnOk P w K mg base CX0 2 f6 fd6 ["names", "value"] (spLIsLot K)) (a6 : At K mg "_law_is_lot" f6 fd6 ["names", "value"]) :
    FnOk P w K mg base CX0 8 f fd ["names", "ring", "one", "far"] (spLWthR K C) := by
  refine F.ok scLWthR (fun vs H Q E h => ?_) (fun cdv A outer s H vs Q E hr h => ?_)
  · obtain ⟨n, c, t, u, zs, one, two, rfl, _⟩ := h
    rfl
  · obtain ⟨n, c, t, u, zs, one, two, rfl, hn, ca, nk, ht, hu, o1, o2, k⟩ := h
    have nd := scLWthR.nd
    have hr1 : Room 1 _ := hr.mono (by decide)
    have hr2 : Room 2 _ := hr.mono (by decide)
    refine ⟨_, pss_cons (ps_par (i := 4) (j := 5) rfl nd rfl rfl (by decide) rfl rfl (by exact (pa_cons (pe_call G1 hr (by rfl) a1.m a1.kp a1.b .nil pass0 (pa_cons (pv 1) (pa_cons (pv 2) (pa_cons (pv 3) pa_nil))))
          (pa_cons (pe_callB (cr_all rfl) (by rfl) T.all boot_all (pa_cons (pe_lc (own := [("lot", 6)]) (g := gName 6) (tt := tYes) (te := tCall (spLHasOne K) [] E0 (tCons (tVar 3) (tCons (tVar 6) tNil))) rfl nd (pi_tup (pv 2))
            (blkOk_by (N := nmWR) (sc := defScope sLWthR) (by decide +kernel)) (fun _ _ _ _ _ => pg_name (i := 6) nd rfl (by first | exact .inl rfl | exact .inr rfl)) (fun _ _ _ _ _ => pts_nil)
            (fun _ _ _ _ _ => pe_call G3 hr2 (by rfl) a3.m a3.kp a3.b .nil pass0 (pa_cons (pv 3) (pa_cons (pv 6) pa_nil)))) pa_nil)) pa_nil))) rfl)
      (pss_cons (ps_if (PW.pt (pw_or (pt_cmpR op_isnot_bl (pe_call G2 hr (by rfl) a2.m a2.kp a2.b .nil pass0 (pa_cons (pv 1) (pa_cons (pv 2) (pa_cons (pv 3) (pa_cons (pv 4) pa_nil))))) pe_bl (nomark _))
          (pw_or1 (pt_cmpR op_ne (pe_ix ix_tup (pv 4) pe_int (fun _ _ => rfl)) (pe_ifExp (pt_val (pv 5)) pe_str pe_str) (nomark _))))) pss_no pss_nil)
      (pss_cons (ps_if (pt_not (pt_val (pv 5)))
          (pss_one (ps_ret (pe_and (pe_call G6 hr2 (by rfl) a6.m a6.kp a6.b .nil pass0 (pa_cons (pv 0) (pa_cons (pe_ix ix_tup (pv 4) pe_int (fun _ _ => rfl)) pa_nil)))
            (pe_and (pe_call G3 hr2 (by rfl) a3.m a3.kp a3.b .nil pass0 (pa_cons (pv 2) (pa_cons (pe_ix ix_tup (pv 4) pe_int (fun _ _ => rfl)) pa_nil)))
              (pe_one (pe_not (pe_call G3 hr2 (by rfl) a3.m a3.kp a3.b .nil pass0 (pa_cons (pv 3) (pa_cons (pe_ix ix_tup (pv 4) pe_int (fun _ _ => rfl)) pa_nil))))))))) pss_nil)
      (pss_cons (ps_if (PW.pt (pw_or (pt_cmpR op_ne (pe_callB call_len_seq (by rfl) T.len PySem.boot_len (pa_cons (pe_ix ix_tup (pv 4) pe_int (fun _ _ => rfl)) pa_nil)) (pe_callB call_len_seq (by rfl) T.len PySem.boot_len (pa_cons (pv 2) pa_nil)) (nomark _))
          (pw_or1 (pt_not (pt_val (pe_callB (cr_all rfl) (by rfl) T.all boot_all (pa_cons (pe_lc (own := [("at", 7)]) (g := gName 7) (tt := tYes) (te := tCall spLNum [] E0 (tCons (tVar 7) (tCons (tCB (rLenS K) (tCons (tVar 3) tNil)) tNil))) rfl nd (pi_tup (pe_ix ix_tup (pv 4) pe_int (fun _ _ => rfl)))
            (blkOk_by (N := nmWR) (sc := defScope sLWthR) (by decide +kernel)) (fun _ _ _ _ _ => pg_name (i := 7) nd rfl (by first | exact .inl rfl | exact .inr rfl)) (fun _ _ _ _ _ => pts_nil)
            (fun _ _ _ _ _ => pe_call G4 hr1 (by rfl) a4.m a4.kp a4.b .nil pass0 (pa_cons (pv 7) (pa_cons (pe_callB call_len_seq (by rfl) T.len PySem.boot_len (pa_cons (pv 3) pa_nil)) pa_nil)))) pa_nil))))))) pss_no pss_nil)
      (pss_one (ps_ret (pe_callB (cr_all rfl) (by rfl) T.all boot_all (pa_cons (pe_lc (own := [("at", 7), ("lot", 6)]) (g := gTup K 2 (gCons (gName 7) (gCons (gName 6) gNil))) (tt := tYes) (te := tCall (spInside K) [] E0 (tCons (tOp (rIxT K) (tVar 3) (tVar 7)) (tCons (tVar 6) tNil))) rfl nd (pi_zipS (by rfl) Cc.zip (pa_cons (pe_ix ix_tup (pv 4) pe_int (fun _ _ => rfl)) (pa_cons (pv 2) pa_nil)))
          (blkOk_by (N := nmWR) (sc := defScope sLWthR) (by decide +kernel)) (fun _ _ _ _ _ => pg_tup rfl (pgs_cons (pg_name (i := 7) nd rfl (by first | exact .inl rfl | exact .inr rfl)) (pgs_cons (pg_name (i := 6) nd rfl (by first | exact .inl rfl | exact .inr rfl)) pgs_nil))) (fun _ _ _ _ _ => pts_nil)
          (fun _ _ _ _ _ => pe_call G5 hr1 (by rfl) a5.m a5.kp a5.b .nil pass0 (pa_cons (pe_ix ix_tup (pv 3) (pv 7) (fun _ _ => rfl)) (pa_cons (pv 6) pa_nil)))) pa_nil))))))), ?_⟩
    have l1 := o1.few nk.nd nk.k6
    have l2 := o2.few nk.nd nk.k6
    have z6 := nk.k6
    have r1 : ∀ r ∈ one, r.length ≤ 6 := fun r hr => Nat.le_trans (o1.sub r hr).length_le z6
    have r2 : ∀ r ∈ two, r.length ≤ 6 := fun r hr => Nat.le_trans (o2.sub r hr).length_le z6
    refine ⟨_, rfl, _, rfl, _, rfl, c, t, u, zs, one, two, rfl, ca, nk, ht, hu, o1, o2, fun q H1 s1 wth => ?_⟩
    have ht1 := ht.same s1
    have hu1 := hu.same s1
    obtain ⟨ts, et, pt⟩ := id ht1
    have tl := paired_len pt
    obtain ⟨ks, hts, hrows, tps⟩ := rows_addrF pt
    have kl : ks.length = one.length := by rw [← hrows, List.length_map]
    subst hts
    refine ⟨_, rfl, t, rfl, ⟨_, SqT.of et⟩, all_over (walk_tup (a := t) (xs := ks.map fun y => V.ref y.1)) ks (fun y => V.ref y.1) (fun y => hasB two y.2) rfl (by omega) (fun H s => sqT_same s (SqT.of et)) ?_ ?_⟩
    · rintro i y H2 R hy s2 kk
      exact ⟨rfl, _, rfl, _, rfl, u, y.1, two, y.2, rfl, hu1.same s2, by omega, r2, SqT.of (s2 _ _ (tps y (List.mem_of_getElem? hy))), fun H3 s3 => kk _ s3⟩
    intro H2 s2
    have eb : (ks.all fun y => hasB two y.2) = one.all (hasB two) := by
      rw [← hrows, List.all_map]
      rfl
    rw [eb]
    refine ⟨_, _, rfl, ?_⟩
    have s12 := s1.trans s2
    have ht2 := ht.same s12
    have hu2 := hu.same s12
    have hn2 := hn.same s12
    have et2 := s2 _ _ et
    clear kl
    refine ⟨_, rfl, _, rfl, _, rfl, _, rfl, c, t, u, q, zs, one, two, rfl, ca.same' s12, nk, ht2, hu2, o1, o2, wth.keep (.of s2), fun H3 s3 => ⟨true, true, rfl, rfl, _, rfl, iteB rfl ?_⟩⟩
    rcases wth.keep (.of (s2.trans s3)) with ⟨p, r, hr', hb, eq, ep⟩ | ⟨hb, v, ms, eq, ev, ml, g⟩
    · have bf : one.all (hasB two) = false := Bool.eq_false_iff.mpr fun z => by
        rw [List.all_eq_true.mp z r hr'] at hb
        cases hb
      rw [bf]
      refine ⟨_, rfl, q, _, _, _, rfl, rfl, SqT.of eq, at0 rfl, _, rfl, _, rfl, ?_⟩
      refine iteB rfl ⟨rfl, _, rfl, iteB (by decide +kernel) ?_⟩
      have s13 := s12.trans s3
      refine ⟨_, rfl, _, rfl, iteA rfl ?_⟩
      refine ⟨_, rfl, _, rfl, q, _, _, _, rfl, rfl, SqT.of eq, atI_nat (j := 1) rfl, n, p, zs, r, rfl, (hn.same s13).sq, nk, ep, o1.sub r hr', fun H4 s4 => ⟨_, rfl, iteT ?_⟩⟩
      refine ⟨_, rfl, _, rfl, q, _, _, _, rfl, rfl, SqT.of (s4 _ _ eq), atI_nat (j := 1) rfl, t, p, one, r, rfl, ht.same (s13.trans s4), by omega, r1, SqT.of (s4 _ _ ep), fun H5 s5 => ⟨_, rfl, iteA (hasB_iff.mpr ⟨r, hr', inB_refl r⟩) ?_⟩⟩
      have s45 := s4.trans s5
      refine ⟨_, rfl, _, rfl, q, _, _, _, rfl, rfl, SqT.of (s45 _ _ eq), atI_nat (j := 1) rfl, u, p, two, r, rfl, hu.same (s13.trans s45), by omega, r2, SqT.of (s45 _ _ ep), fun H6 s6 => ?_⟩
      rw [hb]
      exact ⟨_, rfl, k _ (s13.trans (s45.trans s6))⟩
    · have bt : one.all (hasB two) = true := List.all_eq_true.mpr hb
      rw [bt]
      refine ⟨_, rfl, q, _, _, _, rfl, rfl, SqT.of eq, at0 rfl, _, rfl, _, rfl, ?_⟩
      refine iteA rfl ⟨rfl, _, rfl, iteB (by decide +kernel) ?_⟩
      have s13 := s12.trans s3
      refine ⟨_, rfl, _, rfl, iteB rfl ?_⟩
      have et3 := s3 _ _ et2
      obtain ⟨us, eu, pu⟩ := hu.same s13
      have ul := paired_len pu
      have mlt : ∀ (i m : Nat), ms[i]? = some m → m < two.length := fun i m hm => by
        have il : i < one.length := by rw [← ml]; exact (List.getElem?_eq_some_iff.mp hm).1
        obtain ⟨s0, hs0, _⟩ := g i m _ hm (List.getElem?_eq_getElem il)
        exact (List.getElem?_eq_some_iff.mp hs0).1
      refine ⟨_, rfl, q, _, _, _, rfl, rfl, SqT.of eq, atI_nat (j := 1) rfl, v, _, rfl, .inr (SqT.of ev), _, rfl, t, _, rfl, .inr (SqT.of et3), rfl, _, rfl, iteB ?_ ?_⟩
      · rw [List.length_map, ml, tl]
        simp
      refine ⟨_, rfl, q, _, _, _, rfl, rfl, SqT.of eq, atI_nat (j := 1) rfl, v, rfl, ⟨_, SqT.of ev⟩, all_over (walk_tup (a := v) (xs := ms.map fun m : Nat => V.int (m : Int))) ms (fun m : Nat => V.int (m : Int)) (fun _ => true) rfl (by omega) (fun H s => sqT_same s (SqT.of ev)) ?_ ?_⟩
      · rintro i m H4 R hm s4 kk
        have := mlt i m hm
        exact ⟨rfl, _, rfl, _, rfl, u, _, rfl, .inr (SqT.of (s4 _ _ eu)), m, us.length, rfl, by omega, kk _ (Same.refl _)⟩
      intro H4 s4
      rw [show (ms.all fun _ => true) = true from List.all_eq_true.mpr fun _ _ => rfl]
      refine ⟨_, rfl, iteB rfl ?_⟩
      have eq4 := s4 _ _ eq
      have ev4 := s4 _ _ ev
      have et4 := s4 _ _ et3
      refine ⟨_, rfl, q, _, _, _, rfl, rfl, SqT.of eq4, atI_nat (j := 1) rfl, _, rfl, .tup v, .tup t, _, _, rfl, SqT.of ev4, SqT.of et4, all_pairs (walk_zipS (n := one.length) (by rw [List.length_map, ml, tl, Nat.min_self])) (by omega) (fun H s => ⟨SqT.of (s _ _ ev4), SqT.of (s _ _ et4)⟩) ?_ fun H5 s5 => k _ (s13.trans (s4.trans s5))⟩
      rintro i T1 a b H5 R hi e1 e2 s5 nT kk
      obtain ⟨m, hm, rfl⟩ : ∃ m, ms[i]? = some m ∧ a = .int (m : Int) := by
        have e1 : (ms.map fun m : Nat => V.int (m : Int))[i]? = some a := e1
        rw [List.getElem?_map] at e1
        obtain ⟨z, h1, h2⟩ := Option.map_eq_some_iff.mp e1
        exact ⟨z, h1, h2.symm⟩
      obtain ⟨r, hr'⟩ : ∃ r, one[i]? = some r := ⟨_, List.getElem?_eq_getElem hi⟩
      obtain ⟨x, hx, p, rfl, ep⟩ := paired_get pt hr'
      obtain rfl : V.ref p = b := Option.some.inj (hx.symm.trans e2)
      obtain ⟨s0, hs0, hi0⟩ := g i m r hm hr'
      obtain ⟨y, hy, p2, rfl, ep2⟩ := paired_get pu hs0
      have s15 := s4.trans (s5.trans (same_new (o := HO.tup [.int (m : Int), .ref p]) nT))
      refine ⟨T1, _, rfl, SqT.of upd_same, rfl, _, _, rfl, _, _, rfl, rfl, rfl, _, rfl, _, rfl, u, us, _, _, rfl, rfl, SqT.of (s15 _ _ eu), atI_nat hy, _, rfl, p2, p, s0, r, rfl, SqT.of (s15 _ _ ep2), SqT.of (s15 _ _ (s3 _ _ (s2 _ _ ep))), by have := r2 s0 (List.mem_of_getElem? hs0); omega, fun H6 s6 => ?_⟩
      rw [show (s0.all fun y => decide (y ∈ r)) = true from hi0]
      exact kk _ s6
end
end K6
set_option Elab.async false
set_option linter.all false
set_option maxRecDepth 100000
set_option maxHeartbeats 1500000
set_option pp.maxSteps 1200
set_option pp.deepTerms false
namespace K6
open PySem PySem.Spec PyProof.Rows L2 Lk
theorem upd_selfL {H : Hp} {a : Addr} {o : HO} (h : H a = some o) : upd H a o = H := by
  funext b
  by_cases e : b = a
  · rw [e, upd_same, h]
  · rw [upd_ne e]
section
variable {P : Program} {w : World} {K : PySem.W.Frag} {mg : Str → Option Value} {base : Heap} {f : Addr} {fd : FuncData}
/-! ### _law_family -/
def spLFam (K : PySem.W.Frag) : Sp := fun vs H Q _ => ∃ (a n : Addr) (m : Int) (N : Nat) (zs : List Str), vs = [.ref a, .ref n, .int m] ∧ PotAt a N H ∧ N ≤ 100000 ∧ n ≠ a ∧ TupX H n (zs.map V.str) ∧ NmOk zs ∧ 1 ≤ zs.length ∧ 0 < m ∧ m ≤ 5 ∧
  ∀ q rows H', ExtP a H H' → PotAt a (N + 40) H' → FamAt H' q rows → FamOk zs rows → Q (.ref q) H'
abbrev nmFam : List Str := ["pot", "names", "most", "found", "few", "lap", "size", "lot"]
theorem scLFam : FnScope nmFam ["pot", "names", "most"] (defScope sLFam) := ⟨rfl, rfl, rfl, by decide +kernel, rfl, by decide +kernel, by decide +kernel⟩
theorem ok_lFam {f1 f2 f3 f4 f5 : Addr} {fd1 fd2 fd3 fd4 fd5 : FuncData} (F : Fun K "_law_family" "_law_family" sLFam f fd) (T : Bl mg)
    (G1 : FnOk P w K mg base CX0 2 f1 fd1 ["pot", "some"] spOf) (a1 : At K mg "_law_of" f1 fd1 ["pot", "some"])
    (G2 : FnOk P w K mg base CX0 1 f2 fd2 ["pot", "upto"] spTake) (a2 : At K mg "_law_take" f2 fd2 ["pot", "upto"])
    (G3 : FnOk P w K mg base CX0 2 f3 fd3 ["pot", "pool", "amount"] (spSome K)) (a3 : At K mg "_law_some" f3 fd3 ["pot", "pool", "amount"])
    (G4 : FnOk P w K mg base CX0 1 f4 fd4 ["names", "some"] (spLotOf K)) (a4 : At K mg "_law_lot_of" f4 fd4 ["names", "some"])
    (G5 : FnOk P w K mg base CX0 2 f5 fd5 ["names", "some"] (spLeastLG K)) (a5 : At K mg "_law_least_lots" f5 fd5 ["names", "some"]) :
    FnOk P w K mg base CX0 3 f fd ["pot", "names", "most"] (spLFam K) := by
  refine F.ok scLFam (fun vs H Q E h => ?_) (fun cdv A outer s H vs Q E hr h => ?_)
  · obtain ⟨a, n, m, N, zs, rfl, _⟩ := h
    rfl
  · obtain ⟨a, n, m, N, zs, rfl, hp, hN, na, hn, nk, z1, m0, m5, k⟩ := h
    have nd := scLFam.nd
    have hr1 : Room 1 _ := hr.mono (by decide)
    have hr2 : Room 2 _ := hr.mono (by decide)
    refine ⟨_, pss_cons (ps_par (i := 3) (j := 4) rfl nd rfl rfl (by decide) rfl rfl (by exact (pa_cons (pe_lst pa_nil)
          (pa_cons (pe_callB (call_min2 rfl) (by rfl) T.min boot_min (pa_cons (pe_callB call_len_seq (by rfl) T.len PySem.boot_len (pa_cons (pv 1) pa_nil)) (pa_cons (pe_call G1 hr2 (by rfl) a1.m a1.kp a1.b .nil pass0 (pa_cons (pv 0) (pa_cons (pe_lst (pa_cons pe_int (pa_cons pe_int (pa_cons pe_int (pa_cons pe_int pa_nil))))) pa_nil))) pa_nil))) pa_nil))) rfl)
      (pss_cons (ps_for PassesOwn.never rfl (pi_range1 (by rfl) T.range (pa_cons (pe_op op_add pe_int (pe_callB (call_max2 rfl) (by rfl) T.max boot_max (pa_cons (pe_call G2 hr1 (by rfl) a2.m a2.kp a2.b .nil pass0 (pa_cons (pv 0) (pa_cons (pv 2) pa_nil))) (pa_cons (pe_call G2 hr1 (by rfl) a2.m a2.kp a2.b .nil pass0 (pa_cons (pv 0) (pa_cons (pv 2) pa_nil))) pa_nil)))) pa_nil)) (pg_name (i := 5) nd rfl (by first | exact .inl rfl | exact .inr rfl))
          (pss_cons (ps_set (i := 6) nd rfl (by first | exact .inl rfl | exact .inr rfl) (pe_callB (call_min2 rfl) (by rfl) T.min boot_min (pa_cons (pe_callB call_len_seq (by rfl) T.len PySem.boot_len (pa_cons (pv 1) pa_nil)) (pa_cons (pe_op op_add (pv 4) (pe_callTy call_int1 rfl T.int boot_int (pa_cons (pe_cmpR op_eq (pe_call G2 hr1 (by rfl) a2.m a2.kp a2.b .nil pass0 (pa_cons (pv 0) (pa_cons pe_int pa_nil))) pe_int (nomark _)) pa_nil))) pa_nil))))
          (pss_cons (ps_set (i := 7) nd rfl (by first | exact .inl rfl | exact .inr rfl) (pe_call G4 hr1 (by rfl) a4.m a4.kp a4.b .nil pass0 (pa_cons (pv 1) (pa_cons (pe_call G3 hr2 (by rfl) a3.m a3.kp a3.b .nil pass0 (pa_cons (pv 0) (pa_cons (pv 1) (pa_cons (pv 6) pa_nil)))) pa_nil))))
          (pss_one (ps_expr (pe_bm PySem.F.plainAttrs_list PySem.F.slot_list_extend PySem.F.type_list_extend mt_extend (pv 3) (pa_cons (pe_ifExp (pt_cmpR (op_notInD (room65 hr)) (pv 7) (pv 3) rfl) (pe_lst (pa_cons (pv 7) pa_nil)) (pe_lst pa_nil)) pa_nil)))))))
      (pss_one (ps_ret (pe_call G5 hr2 (by rfl) a5.m a5.kp a5.b .nil pass0 (pa_cons (pv 1) (pa_cons (pv 3) pa_nil)))))), ?_⟩
    have z6 := nk.k6
    have zl : (zs.map V.str).length = zs.length := List.length_map ..
    refine ⟨few_ok rfl, fun D nD => ?_⟩
    have s1 : Same H (upd H D (.lst [])) := same_new nD
    have eD1 : upd H D (.lst []) D = some (.lst []) := upd_same
    generalize upd H D (.lst []) = H1 at s1 eD1 ⊢
    have Da : D ≠ a := fun z => hp.ne (by rw [← z]; exact nD)
    have p1 := hp.same s1
    have hn1 := hn.same s1
    refine ⟨_, rfl, n, _, rfl, .inr hn1.sq, _, rfl, few_ok rfl, fun l nl => ⟨a, l, N, [.int 1, .int 2, .int 2, .int 3], rfl, p1.same (same_new nl), by omega, fun z => p1.ne (by rw [← z]; exact nl), upd_same, by decide, by decide, fun i0 y0 H2 hy0 x2 p2 => ?_⟩⟩
    obtain ⟨fw, f1, f3, rfl⟩ : ∃ fw : Int, 1 ≤ fw ∧ fw ≤ 3 ∧ y0 = .int fw := by
      match i0, hy0 with
      | 0, h => exact ⟨1, by decide, by decide, (Option.some.inj h).symm⟩
      | 1, h => exact ⟨2, by decide, by decide, (Option.some.inj h).symm⟩
      | 2, h => exact ⟨2, by decide, by decide, (Option.some.inj h).symm⟩
      | 3, h => exact ⟨3, by decide, by decide, (Option.some.inj h).symm⟩
      | _ + 4, h => simp at h
    have x12 : ExtP a H1 H2 := (ExtP.of (same_new nl)).trans x2
    clear x2 nl hy0
    refine ⟨_, _, rfl, _, _, rfl, ?_⟩
    rw [zl]
    obtain ⟨fe, hfe⟩ : ∃ fe : Int, fe = if fw < (zs.length : Int) then fw else (zs.length : Int) := ⟨_, rfl⟩
    rw [← hfe]
    have fe1 : 1 ≤ fe := by rw [hfe]; split <;> omega
    have fe2 : fe ≤ zs.length := by rw [hfe]; split <;> omega
    refine ⟨_, rfl, _, rfl, a, m, N + 1, rfl, p2, by omega, by omega, by omega, fun t1 H3 t10 t11 x3 p3 => ?_⟩
    refine ⟨_, rfl, _, rfl, a, m, N + 2, rfl, p3, by omega, by omega, by omega, fun t2 H4 t20 t21 x4 p4 => ⟨_, _, rfl, _, _, rfl, rfl, ?_⟩⟩
    have x14 : ExtP a H1 H4 := x12.trans (x3.trans x4)
    have eD4 := x14 _ _ Da eD1
    have k14 := Keep.ext p1 x14
    have hn4 := hn1.keep k14
    obtain ⟨mx, hmx⟩ : ∃ mx : Int, mx = 1 + (if t2 > t1 then t2 else t1) := ⟨_, rfl⟩
    have mx1 : 1 ≤ mx := by rw [hmx]; split <;> omega
    have mx5 : mx ≤ 5 := by rw [hmx]; split <;> omega
    refine ⟨mx, by rw [hmx], by omega, by omega, for_range (lo := 0) (n := mx.toNat) (fun i σ H' => ∃ (u5 u6 u7 : Option V) (ks : List V) (rows : List (List Str)), σ = [some (.ref a), some (.ref n), some (.int m), some (.ref D), some (.int fe), u5, u6, u7] ∧ H' D = some (.lst ks) ∧ Paired (RelT H') ks rows ∧ (∀ r ∈ rows, r.Sublist zs) ∧ rows.length ≤ i ∧ (0 < i → rows ≠ []) ∧ PotAt a (N + 3 + 7 * i) H' ∧ ExtP a H H' ∧ Keep H1 H') ?_ ?_ ?_⟩
    · exact ⟨none, none, none, [], [], rfl, eD4, .nil, (fun _ h => by cases h), Nat.le_refl _, fun h => absurd h (Nat.lt_irrefl _), p4, (ExtP.of s1).trans x14, k14⟩
    · rintro i σ H5 hi ⟨u5, u6, u7, ks, rows, rfl, eD5, pr5, sub5, len5, ne5, p5, x5, k15⟩
      have i5 : i < 5 := by omega
      have hn5 := hn1.keep k15
      refine ⟨_, rfl, n, _, rfl, .inr hn5.sq, _, rfl, _, rfl, a, 4, _, rfl, p5, by omega, by decide, by decide, fun t H6 t0 t4 x6 p6 => ⟨rfl, .inr ⟨_, rfl, _, _, rfl, rfl, _, _, rfl, ?_⟩⟩⟩
      rw [zl]
      obtain ⟨sz, hsz⟩ : ∃ sz : Int, sz = if (fe + if decide (V.int t = V.int 0) = true then 1 else 0) < (zs.length : Int) then (fe + if decide (V.int t = V.int 0) = true then 1 else 0) else (zs.length : Int) := ⟨_, rfl⟩
      rw [← hsz]
      have b01 : ∀ c : Bool, 0 ≤ (if c = true then (1 : Int) else 0) := by decide
      have sz1 : 0 ≤ sz := by
        have := b01 (decide (V.int t = V.int 0))
        rw [hsz]
        split <;> omega
      have sz2 : sz ≤ zs.length := by rw [hsz]; split <;> omega
      have k56 := Keep.ext p5 x6
      have hn6 := hn5.keep k56
      have eD6 := x6 _ _ Da eD5
      refine ⟨_, rfl, _, rfl, _, rfl, _, rfl, a, n, sz, _, zs.map V.str, rfl, p6, by omega, .inr hn6.sq, sz1, by rw [zl]; exact sz2, by rw [zl]; omega, fun ys p H7 sel yl x7 p7 np _ ep => ?_⟩
      obtain ⟨ws, rfl, selw⟩ := sel.map
      have k67 := Keep.ext p6 x7
      have hn7 := hn6.keep k67
      have eD7 := x7 _ _ Da eD6
      refine ⟨n, p, zs, ws, rfl, .inr hn7.sq, .inl (SqL.of ep), by omega, fun q H8 s8 nq eq => ?_⟩
      obtain ⟨row, hrow⟩ : ∃ row, row = zs.filter fun p => decide (p ∈ ws) := ⟨_, rfl⟩
      rw [← hrow] at eq
      have rsub : row.Sublist zs := by rw [hrow]; exact List.filter_sublist
      have eD8 := s8 _ _ eD7
      have k58 : Keep H5 H8 := (k56.trans k67).trans (.of s8)
      have pr8 := rows_keep pr5 k58
      have p8 := p7.same s8
      have x8 : ExtP a H H8 := x5.trans (x6.trans (x7.trans (.of s8)))
      have k18 := k15.trans k58
      have ksl : ks.length = rows.length := paired_len pr8
      have nr := nice_lot nk rsub
      have nrs : Nice (rows.length * (6 * (8 + 1) + 1)) 2 (.list (rows.map fun r => PyData.tuple (strsD r))) := Nice.lst (fun d hd => by
        obtain ⟨z, hz, rfl⟩ := List.mem_map.mp hd
        exact nice_lot nk (sub5 z hz)) (by rw [List.length_map]; exact Nat.le_refl _)
      refine ⟨_, rfl, .inl ⟨rfl, _, SqL.of eD8⟩, _, rfl, _, rfl, .tuple (strsD row), rows.map fun r => .tuple (strsD r), .tup (SqT.of eq) (dp_strs _), .lst (SqL.of eD8) (dp_rows pr8), nr.shaped (by decide), nrs.shaped (by decide), _, rfl, ?_⟩
      rw [in_rows]
      have pot9 : ∀ {H9 : Hp}, PotAt a (N + 3 + 7 * i + 1 + sz.toNat) H9 → PotAt a (N + 3 + 7 * (i + 1)) H9 := fun h => h.mono (by omega)
      by_cases hin : row ∈ rows
      · refine iteB (by simp [hin]) ?_
        refine ⟨few_ok rfl, fun e ne => ?_⟩
        have s9 : Same H8 (upd H8 e (.lst [])) := same_new ne
        have ee : upd H8 e (.lst []) e = some (.lst []) := upd_same
        generalize upd H8 e (.lst []) = H9 at s9 ee ⊢
        have eD9 := s9 _ _ eD8
        refine ⟨D, e, ks, [], rfl, rfl, eD9, ee, by rw [sizeLine_eq]; show ks.length + 0 ≤ _; omega, ?_⟩
        rw [List.append_nil, upd_selfL eD9]
        refine ⟨_, _, _, ks, rows, rfl, eD9, rows_keep pr8 (.of s9), sub5, by omega, fun _ z => (by rw [z] at hin; cases hin), pot9 (p8.same s9), x8.trans (.of s9), k18.trans (.of s9)⟩
      · refine iteA (by simp [hin]) ?_
        refine ⟨_, rfl, few_ok rfl, fun e ne => ?_⟩
        have s9 : Same H8 (upd H8 e (.lst [.ref q])) := same_new ne
        have ee : upd H8 e (.lst [.ref q]) e = some (.lst [.ref q]) := upd_same
        generalize upd H8 e (.lst [.ref q]) = H9 at s9 ee ⊢
        have eD9 := s9 _ _ eD8
        refine ⟨D, e, ks, [.ref q], rfl, rfl, eD9, ee, by rw [sizeLine_eq]; show ks.length + 1 ≤ _; omega, ?_⟩
        have kD : Keep H9 (upd H9 D (.lst (ks ++ [.ref q]))) := .upd eD9
        have k8D := (Keep.of s9).trans kD
        have qD : q ≠ D := fun z => by rw [z, eD8] at eq; cases eq
        refine ⟨_, _, _, ks ++ [.ref q], rows ++ [row], rfl, upd_same, Paired.add (rows_keep pr8 k8D) ⟨q, rfl, k8D _ _ eq fun _ z => by cases z⟩, fun r hr => ?_, ?_, fun _ z => (by simp at z), ?_, ?_, k18.trans k8D⟩
        · rcases List.mem_append.mp hr with hr | hr
          · exact sub5 r hr
          · rw [List.mem_singleton.mp hr]; exact rsub
        · rw [List.length_append]
          show rows.length + 1 ≤ _
          omega
        · obtain ⟨o, b, c, e', r⟩ := pot9 (p8.same s9)
          exact ⟨o, b, c, by rw [upd_ne Da.symm]; exact e', r⟩
        · intro b o nb e'
          rw [upd_ne (ne_of_none e' nD)]
          exact s9 _ _ (x8 _ _ nb e')
    · rintro σ H5 ⟨u5, u6, u7, ks, rows, rfl, eD5, pr5, sub5, len5, ne5, p5, x5, k15⟩
      have hn5 := hn1.keep k15
      have mxn : 0 < mx.toNat := by omega
      have rne := ne5 mxn
      refine ⟨_, rfl, _, rfl, n, D, zs, ks, rows, rfl, hn5.sq, nk, eD5, pr5, sub5, fun q us rws H6 s6 eq pu lo => ?_⟩
      have x6 : ExtP a H H6 := x5.trans (.of s6)
      refine k q _ H6 x6 ((p5.same s6).mono (by omega)) ⟨us, eq, pu⟩ ⟨fun z => ?_, rws, _, lo, rfl⟩
      · obtain ⟨r, hr'⟩ := List.exists_mem_of_ne_nil _ rne
        have := (leastF_none _ rws).mp z r (lots_has lo nk.nd (sub5 r hr'))
        rw [decide_eq_true hr'] at this
        cases this
end
end K6
set_option Elab.async false
set_option linter.all false
set_option maxRecDepth 100000
set_option maxHeartbeats 1500000
/-! Part Rp: repr of data that is read deep (lists, tuples of any kind). -/
namespace Lk
open PySem PySem.Spec PyProof.Rows L2
theorem call_reprP {X : Cx} (noG : NoG X.A) (hu : X.A.units + 64 < cLine) : CallR X (.builtin "repr") (fun xs H Q => ∃ v d, xs = [v] ∧ Dp X.K H v d ∧ Nice 1000000 50 d ∧ Q (.str d.shown) H) := by
  intro pins s σ H xs us Q I r h
  obtain ⟨v, d, rfl, hd, n, q⟩ := h
  obtain ⟨u, rfl, ru⟩ := r.one
  have fin : ∀ t (s' : Shared), Inv X pins σ H s' → EP X pins σ Q (.str d.shown t) s' := fun t s' J => ⟨.str d.shown, H, J, ⟨t, rfl⟩, q⟩
  have hl := n.fits (by decide) (by decide)
  have refs : ∀ a, u = .ref a → wpAny (model X.prog X.w) X.A (call (.builtin "repr") [u]) (EP X pins σ Q) X.xe s := by
    rintro a rfl
    obtain ⟨as, q1⟩ := Dp.reads I d v (.ref a) hd ru
    have := n.dep
    exact repr_of_reads' q1 n.sw (PyData.noDict_hsm (PyData.hasDict_of_canLay d n.lay)) noG (by omega) (fun _ _ e => e) (fun h' t tk k => fin _ _ (I.kept (t' := tk) k)) hl
  cases hd with
  | non => cases (show u = Value.none from ru); exact PySem.P.repr_of_none (fin _ _ (I.tok _))
  | bl b => cases (show u = Value.bool b from ru); cases b <;> exact PySem.P.repr_of_bool (fin _ _ (I.tok _))
  | int i => obtain ⟨t, rfl⟩ := ru; exact PySem.P.repr_of_int (by simpa [PyData.showable] using n.sw) (fin _ _ (I.tok _))
  | str x => obtain ⟨t, rfl⟩ := ru; exact PySem.P.repr_of_str (fin _ _ (I.tok _)) hl
  | lst _ _ => exact refs _ ru
  | tup _ _ => exact refs _ ru
end Lk
set_option Elab.async false
set_option linter.all false
set_option maxRecDepth 100000
set_option maxHeartbeats 16000000
set_option pp.maxSteps 1200
set_option pp.deepTerms false
namespace K6
open PySem PySem.Spec PyProof.Rows L2 Lk
abbrev sRight : Stmt := top 57
theorem Sel.nodupF {α : Type} {ys xs : List α} (h : Sel ys xs) (n : xs.Nodup) : ys.Nodup := by
  obtain ⟨zs, p⟩ := h
  exact (p.nodup_iff.mpr n).sublist (List.sublist_append_left _ _)
theorem Sel.subF {α : Type} {ys xs : List α} (h : Sel ys xs) : ∀ y ∈ ys, y ∈ xs := fun y hy => by
  obtain ⟨zs, p⟩ := h
  exact p.mem_iff.mp (List.mem_append_left _ hy)
theorem pool_nd : namePool.Nodup := by decide +kernel
theorem pool_low : ∀ p ∈ namePool, LowOk p := by decide +kernel
theorem fam_zero {zs : List Str} {rows : List (List Str)} (h : FamOk zs rows) (nd : zs.Nodup) : FamOk zs [[]] := by
  obtain ⟨_, rws, p, lo, _⟩ := h
  refine ⟨by simp, rws, fun r => decide (r = []), lo, ?_⟩
  obtain ⟨sb, al⟩ := least_subl (fun r : List Str => decide (r = [])) rws
  have ndl := (lots_nodup nd lo).sublist sb
  have m0 : [] ∈ rws := lots_has lo nd (List.nil_sublist _)
  cases e : leastF (fun r : List Str => decide (r = [])) rws with
  | nil =>
    have := (leastF_none _ rws).mp e [] m0
    simp at this
  | cons x xs =>
    rw [e] at ndl al
    have hx : x = [] := of_decide_eq_true (al x List.mem_cons_self)
    cases xs with
    | nil => rw [hx]
    | cons y ys =>
      have hy : y = [] := of_decide_eq_true (al y (List.mem_cons_of_mem _ List.mem_cons_self))
      rw [hx, hy] at ndl
      simp at ndl
def intsD (ns : List Int) : PyData := .tuple (ns.map PyData.int)
theorem fe_int (ws : List (V × List Str)) : (ws.filterMap fun z => some (V.int (z.2.length : Int))) = ((ws.map (·.2)).map fun r => (r.length : Int)).map V.int := by
  induction ws with
  | nil => rfl
  | cons z ws ih => rw [List.filterMap_cons, ih]; rfl
theorem nice_sizes {n : Nat} {rows : List (List Str)} (n6 : n ≤ 6) (l64 : rows.length ≤ 64) : Nice (7 * (8 + 1)) 1 (intsD (sizesL n rows)) := by
  refine Nice.tup (fun d hd => ?_) (by unfold sizesL; rw [List.length_map, List.length_map, List.length_range]; omega)
  obtain ⟨z, hz, rfl⟩ := List.mem_map.mp hd
  unfold sizesL at hz
  obtain ⟨m, _, rfl⟩ := List.mem_map.mp hz
  refine Nice.nat ?_
  have := List.count_le_length (a := (m : Int)) (l := rows.map fun r => (r.length : Int))
  rw [List.length_map] at this
  omega
def RelF (zs : List Str) (H : Hp) (v : V) (rows : List (List Str)) : Prop := ∃ t, v = .ref t ∧ FamAt H t rows ∧ FamOk zs rows
theorem RelF.keepP {zs : List Str} {H H' : Hp} (k : Keep H H') (v : V) (rows : List (List Str)) (h : RelF zs H v rows) : RelF zs H' v rows := by
  obtain ⟨t, e, g, o⟩ := h
  exact ⟨t, e, g.keep k, o⟩
theorem paired_map_of {α β γ : Type} {R : β → γ → Prop} {f : α → β} {g : α → γ} : ∀ {zs : List α}, (∀ z ∈ zs, R (f z) (g z)) → Paired R (zs.map f) (zs.map g)
  | [], _ => .nil
  | z :: zs, h => .cons (h z List.mem_cons_self) (paired_map_of fun y hy => h y (List.mem_cons_of_mem _ hy))
theorem dp_intsF {K : PySem.W.Frag} {H : Hp} : ∀ ns : List Int, DpAll K H (ns.map V.int) (ns.map PyData.int)
  | [] => .nil
  | n :: ns => .cons (.int n) (dp_intsF ns)
theorem dp_fam {K : PySem.W.Frag} {H : Hp} {t : Addr} {rows : List (List Str)} (h : FamAt H t rows) : Dp K H (.ref t) (.tuple (rows.map fun r => PyData.tuple (strsD r))) := by
  obtain ⟨ts, e, p⟩ := h
  exact .tup (SqT.of e) (dp_rows p)
theorem pool_ok : ∀ p ∈ namePool, PyData.strOk p = true ∧ p.length ≤ 8 := by decide +kernel
section
variable {P : Program} {w : World} {K : PySem.W.Frag} {mg : Str → Option Value} {base : Heap} {f : Addr} {fd : FuncData}
/-! ### _law_right -/
def spRight : Sp := fun vs H Q _ => ∃ (a : Addr) (N : Nat), vs = [.ref a] ∧ PotAt a N H ∧ N ≤ 5000 ∧ ∀ H', ExtP a H H' → PotAt a (N + 200) H' → Q (.bl true) H'
abbrev nmR : List Str := ["pot", "names", "ring", "one", "far", "family", "every", "some", "mine", "its", "lot", "sizes", "size"]
theorem scRight : FnScope nmR ["pot"] (defScope sRight) := ⟨rfl, rfl, rfl, by decide +kernel, rfl, by decide +kernel, by decide +kernel⟩
theorem ok_right {C fC fN fI fFm fTk fAl fSm fLe fLL fMe fJo fSh fMa fW fH : Addr} {dN dI dFm dTk dAl dSm dLe dLL dMe dJo dSh dMa dW dH : FuncData} (F : Fun K "_law_right" "_law_right" sRight f fd) (T : Bl mg) (Cc : Cn mg) (CC : CircC K C fI) (mC : mg "Circle" = some (.ref C))
    (GN : FnOk P w K mg base CX0 3 fN dN ["pot", "few", "upmost"] spNames) (aN : At K mg "_law_names" fN dN ["pot", "few", "upmost"])
    (GI : FnOk P w K mg base CX0 3 fI dI ["self", "names"] (spCircI K C)) (bI : Binds K dI ["self", "names"] [])
    (GFm : FnOk P w K mg base CX0 3 fFm dFm ["pot", "names", "most"] (spLFam K)) (aFm : At K mg "_law_family" fFm dFm ["pot", "names", "most"])
    (GTk : FnOk P w K mg base CX0 1 fTk dTk ["pot", "upto"] spTake) (aTk : At K mg "_law_take" fTk dTk ["pot", "upto"])
    (GAl : FnOk P w K mg base CX0 1 fAl dAl ["names"] (spAllLots K)) (aAl : At K mg "_law_all_lots" fAl dAl ["names"])
    (GSm : FnOk P w K mg base CX0 2 fSm dSm ["pot", "pool", "amount"] (spSome K)) (aSm : At K mg "_law_some" fSm dSm ["pot", "pool", "amount"])
    (GLe : FnOk P w K mg base CX0 5 fLe dLe ["circle", "some"] (spLeastP C)) (aLe : At K mg "least" fLe dLe ["circle", "some"])
    (GLL : FnOk P w K mg base CX0 2 fLL dLL ["names", "some"] (spLeastLG K)) (aLL : At K mg "_law_least_lots" fLL dLL ["names", "some"])
    (GMe : FnOk P w K mg base CX0 3 fMe dMe ["names", "family"] (spLMemb K)) (aMe : At K mg "_law_members" fMe dMe ["names", "family"])
    (GJo : FnOk P w K mg base CX0 7 fJo dJo ["circle", "one", "other"] (spJoined C)) (aJo : At K mg "joined" fJo dJo ["circle", "one", "other"])
    (GSh : FnOk P w K mg base CX0 7 fSh dSh ["circle", "one", "other"] (spShared C)) (aSh : At K mg "shared" fSh dSh ["circle", "one", "other"])
    (GMa : FnOk P w K mg base CX0 7 fMa dMa ["circle", "family"] (spMany C)) (aMa : At K mg "many" fMa dMa ["circle", "family"])
    (GW : FnOk P w K mg base CX0 8 fW dW ["names", "ring", "one", "far"] (spLWthR K C)) (aW : At K mg "_law_is_within_right" fW dW ["names", "ring", "one", "far"])
    (GH : FnOk P w K mg base CX0 8 fH dH ["ring", "family", "lot"] (spLHasR C)) (aH : At K mg "_law_is_has_right" fH dH ["ring", "family", "lot"]) :
    FnG P w K mg base 9 f fd ["pot"] spRight := by
  refine FnG.of F scRight (fun vs H Q h => ?_) (fun cdv A outer s H vs Q hr hG h => ?_)
  · obtain ⟨a, N, rfl, _⟩ := h
    rfl
  · obtain ⟨a, N, rfl, hp, hN, k⟩ := h
    have nd := scRight.nd
    have hu64 := room64 hr
    have hr1 : Room 1 _ := hr.mono (by decide)
    have hr2 : Room 2 _ := hr.mono (by decide)
    have hr3 : Room 3 _ := hr.mono (by decide)
    have hr4 : Room 4 _ := hr.mono (by decide)
    have hr5 : Room 5 _ := hr.mono (by decide)
    have hr7 : Room 7 _ := hr.mono (by decide)
    refine ⟨_, pss_cons (ps_set (i := 1) nd rfl (by first | exact .inl rfl | exact .inr rfl) (pe_call GN hr3 (by rfl) aN.m aN.kp aN.b .nil pass0 (pa_cons (pv 0) (pa_cons pe_int (pa_cons pe_int pa_nil)))))
      (pss_cons (ps_asg (pe_tup (pa_cons (pe_make CC.mkr GI hr4 (by rfl) mC bI .nil pass0 (pa_cons (pv 1) pa_nil)) (pa_cons (pe_call GFm hr3 (by rfl) aFm.m aFm.kp aFm.b .nil pass0 (pa_cons (pv 0) (pa_cons (pv 1) (pa_cons pe_int pa_nil)))) (pa_cons (pe_call GFm hr3 (by rfl) aFm.m aFm.kp aFm.b .nil pass0 (pa_cons (pv 0) (pa_cons (pv 1) (pa_cons pe_int pa_nil)))) pa_nil))))
            (pg_tup rfl (pgs_cons (pg_name (i := 2) nd rfl (by first | exact .inl rfl | exact .inr rfl)) (pgs_cons (pg_name (i := 3) nd rfl (by first | exact .inl rfl | exact .inr rfl)) (pgs_cons (pg_name (i := 4) nd rfl (by first | exact .inl rfl | exact .inr rfl)) pgs_nil)))))
      (pss_cons (ps_asg (pe_lc (own := [("family", 5)]) (g := gName 5) (tt := tYes) (te := tIf (tTest (tOp rEq (tCall spTake [] E0 (tCons (tVar 0) (tCons (tC (.int 10)) tNil))) (tC (.int 0)))) (tTup (tCons (tTup tNil) tNil)) (tVar 5)) rfl nd (pi_tup (pe_tup (pa_cons (pv 3) (pa_cons (pv 4) pa_nil))))
              (blkOk_by (N := nmR) (sc := defScope sRight) (by decide +kernel)) (fun _ _ _ _ _ => pg_name (i := 5) nd rfl (by first | exact .inl rfl | exact .inr rfl)) (fun _ _ _ _ _ => pts_nil)
              (fun _ _ _ _ _ => pe_ifExp (pt_cmpR op_eq (pe_call GTk hr1 (by rfl) aTk.m aTk.kp aTk.b .nil pass0 (pa_cons (pv 0) (pa_cons pe_int pa_nil))) pe_int (nomark _)) (pe_tup (pa_cons (pe_tup pa_nil) pa_nil)) (pv 5)))
            (pg_unl rfl (pgs_cons (pg_name (i := 3) nd rfl (by first | exact .inl rfl | exact .inr rfl)) (pgs_cons (pg_name (i := 4) nd rfl (by first | exact .inl rfl | exact .inr rfl)) pgs_nil))))
      (pss_cons (ps_set (i := 6) nd rfl (by first | exact .inl rfl | exact .inr rfl) (pe_call GAl hr1 (by rfl) aAl.m aAl.kp aAl.b .nil pass0 (pa_cons (pv 1) pa_nil)))
      (pss_cons (ps_set (i := 7) nd rfl (by first | exact .inl rfl | exact .inr rfl) (pe_call GSm hr2 (by rfl) aSm.m aSm.kp aSm.b .nil pass0 (pa_cons (pv 0) (pa_cons (pv 6) (pa_cons (pe_op op_add pe_int (pe_call GTk hr1 (by rfl) aTk.m aTk.kp aTk.b .nil pass0 (pa_cons (pv 0) (pa_cons (pe_callB (call_min2 rfl) (by rfl) T.min boot_min (pa_cons pe_int (pa_cons (pe_callB call_len_seq (by rfl) T.len PySem.boot_len (pa_cons (pv 6) pa_nil)) pa_nil))) pa_nil)))) pa_nil)))))
      (pss_cons (ps_if (pt_cmpR op_ne (pe_callB (call_reprP hG hu64) (by rfl) T.repr boot_repr (pa_cons (pe_call GLe hr5 (by rfl) aLe.m aLe.kp aLe.b .nil pass0 (pa_cons (pv 2) (pa_cons (pe_tupleOf (by rfl) Cc.tuple (pv 7)) pa_nil))) pa_nil)) (pe_callB (call_reprP hG hu64) (by rfl) T.repr boot_repr (pa_cons (pe_call GLL hr2 (by rfl) aLL.m aLL.kp aLL.b .nil pass0 (pa_cons (pv 1) (pa_cons (pv 7) pa_nil))) pa_nil)) (nomark _)) pss_no pss_nil)
      (pss_cons (ps_asg (pe_tup (pa_cons (pe_call GMe hr3 (by rfl) aMe.m aMe.kp aMe.b .nil pass0 (pa_cons (pv 1) (pa_cons (pv 3) pa_nil))) (pa_cons (pe_call GMe hr3 (by rfl) aMe.m aMe.kp aMe.b .nil pass0 (pa_cons (pv 1) (pa_cons (pv 4) pa_nil))) pa_nil)))
            (pg_tup rfl (pgs_cons (pg_name (i := 8) nd rfl (by first | exact .inl rfl | exact .inr rfl)) (pgs_cons (pg_name (i := 9) nd rfl (by first | exact .inl rfl | exact .inr rfl)) pgs_nil))))
      (pss_cons (ps_if (pt_cmpR op_ne (pe_callB (call_reprP hG hu64) (by rfl) T.repr boot_repr (pa_cons (pe_call GJo hr7 (by rfl) aJo.m aJo.kp aJo.b .nil pass0 (pa_cons (pv 2) (pa_cons (pv 3) (pa_cons (pv 4) pa_nil)))) pa_nil)) (pe_callB (call_reprP hG hu64) (by rfl) T.repr boot_repr (pa_cons (pe_call GLL hr2 (by rfl) aLL.m aLL.kp aLL.b .nil pass0 (pa_cons (pv 1) (pa_cons (pe_op op_cat (pv 8) (pv 9)) pa_nil))) pa_nil)) (nomark _)) pss_no pss_nil)
      (pss_cons (ps_if (pt_cmpR op_ne (pe_callB (call_reprP hG hu64) (by rfl) T.repr boot_repr (pa_cons (pe_call GSh hr7 (by rfl) aSh.m aSh.kp aSh.b .nil pass0 (pa_cons (pv 2) (pa_cons (pv 3) (pa_cons (pv 4) pa_nil)))) pa_nil)) (pe_callB (call_reprP hG hu64) (by rfl) T.repr boot_repr (pa_cons (pe_call GLL hr2 (by rfl) aLL.m aLL.kp aLL.b .nil pass0 (pa_cons (pv 1) (pa_cons (pe_lc (own := [("lot", 10)]) (g := gName 10) (tt := tTest (tOp (rInD K) (tVar 10) (tVar 9))) (te := tVar 10) rfl nd (pi_list (pv 8))
              (blkOk_by (N := nmR) (sc := defScope sRight) (by decide +kernel)) (fun _ _ _ _ _ => pg_name (i := 10) nd rfl (by first | exact .inl rfl | exact .inr rfl)) (fun _ _ _ _ _ => pts_one (pt_cmpR (op_inD (room65 hr)) (pv 10) (pv 9) rfl)) (fun _ _ _ _ _ => pv 10)) pa_nil))) pa_nil)) (nomark _)) pss_no pss_nil)
      (pss_cons (ps_set (i := 11) nd rfl (by first | exact .inl rfl | exact .inr rfl) (pe_lc (own := [("lot", 10)]) (g := gName 10) (tt := tYes) (te := tCB (rLenS K) (tCons (tVar 10) tNil)) rfl nd (pi_list (pv 8))
              (blkOk_by (N := nmR) (sc := defScope sRight) (by decide +kernel)) (fun _ _ _ _ _ => pg_name (i := 10) nd rfl (by first | exact .inl rfl | exact .inr rfl)) (fun _ _ _ _ _ => pts_nil) (fun _ _ _ _ _ => pe_callB call_len_seq (by rfl) T.len PySem.boot_len (pa_cons (pv 10) pa_nil))))
      (pss_cons (ps_if (pt_cmpR op_ne (pe_callB (call_reprP hG hu64) (by rfl) T.repr boot_repr (pa_cons (pe_call GMa hr7 (by rfl) aMa.m aMa.kp aMa.b .nil pass0 (pa_cons (pv 2) (pa_cons (pv 3) pa_nil))) pa_nil)) (pe_callB (call_reprP hG hu64) (by rfl) T.repr boot_repr (pa_cons (pe_tupleOf (by rfl) Cc.tuple (pe_lc (own := [("size", 12)]) (g := gName 12) (tt := tYes) (te := tBM K "list" (rCntI K) (tVar 11) (tCons (tVar 12) tNil)) rfl nd (pi_range1 (by rfl) T.range (pa_cons (pe_op op_add (pe_callB call_len_seq (by rfl) T.len PySem.boot_len (pa_cons (pv 1) pa_nil)) pe_int) pa_nil))
              (blkOk_by (N := nmR) (sc := defScope sRight) (by decide +kernel)) (fun _ _ _ _ _ => pg_name (i := 12) nd rfl (by first | exact .inl rfl | exact .inr rfl)) (fun _ _ _ _ _ => pts_nil)
              (fun _ _ _ _ _ => pe_bm PySem.F.plainAttrs_list PySem.F.slot_list_count PySem.F.type_list_count mt_lcount (pv 11) (pa_cons (pv 12) pa_nil)))) pa_nil)) (nomark _)) pss_no pss_nil)
      (pss_cons (ps_if (PW.pt (pw_or (pt_not (pt_val (pe_call GW hr (by rfl) aW.m aW.kp aW.b .nil pass0 (pa_cons (pv 1) (pa_cons (pv 2) (pa_cons (pv 3) (pa_cons (pv 4) pa_nil)))))))
          (pw_or1 (pt_not (pt_val (pe_call GW hr (by rfl) aW.m aW.kp aW.b .nil pass0 (pa_cons (pv 1) (pa_cons (pv 2) (pa_cons (pv 4) (pa_cons (pv 3) pa_nil)))))))))) pss_no pss_nil)
      (pss_one (ps_ret (pe_callB (cr_all rfl) (by rfl) T.all boot_all (pa_cons (pe_lc (own := [("lot", 10)]) (g := gName 10) (tt := tYes) (te := tCall (spLHasR C) [] E0 (tCons (tVar 2) (tCons (tVar 3) (tCons (tVar 10) tNil)))) rfl nd (pi_list (pe_op op_cat (pe_call GSm hr2 (by rfl) aSm.m aSm.kp aSm.b .nil pass0 (pa_cons (pv 0) (pa_cons (pv 6) (pa_cons (pe_callB (call_min2 rfl) (by rfl) T.min boot_min (pa_cons pe_int (pa_cons (pe_callB call_len_seq (by rfl) T.len PySem.boot_len (pa_cons (pv 6) pa_nil)) pa_nil))) pa_nil)))) (pe_lst (pa_cons (pe_tup pa_nil) (pa_cons (pv 1) pa_nil)))))
              (blkOk_by (N := nmR) (sc := defScope sRight) (by decide +kernel)) (fun _ _ _ _ _ => pg_name (i := 10) nd rfl (by first | exact .inl rfl | exact .inr rfl)) (fun _ _ _ _ _ => pts_nil)
              (fun _ _ _ _ _ => pe_call GH hr (by rfl) aH.m aH.kp aH.b .nil pass0 (pa_cons (pv 2) (pa_cons (pv 3) (pa_cons (pv 10) pa_nil))))) pa_nil))))))))))))))), ?_⟩
    refine ⟨_, rfl, a, 2, 6, N, rfl, hp, by omega, by decide, by decide, by decide, fun ys nmA H1 sel y2 y6 x1 p1 np1 tn1 => ?_⟩
    have z6 : ys.length ≤ 6 := by omega
    have z2 : 2 ≤ ys.length := by omega
    have nk : NmOk ys := ⟨sel.nodupF pool_nd, z6, fun z hz => pool_ok z (sel.subF z hz)⟩
    have low : ∀ z ∈ ys, LowOk z := fun z hz => pool_low z (sel.subF z hz)
    have nma : nmA ≠ a := fun z => hp.ne (by rw [← z]; exact np1)
    clear sel y2 y6
    refine ⟨_, rfl, ?_⟩
    intro x dx nx ndx nex
    have sM : Same H1 (upd (upd H1 dx (.own x)) x (.ins C dx [])) := fun b o e => by rw [upd_ne (ne_of_none e nx), upd_ne (ne_of_none e ndx)]; exact e
    refine ⟨x, nmA, dx, ys, rfl, upd_same, tn1.same sM, z2, z6, low, nk.nd, fun H2 kb ex => ⟨rfl, ?_⟩⟩
    have s2 : Same H1 H2 := fun b o e => kb b o (ne_of_none e nx) (sM _ _ e)
    have tn2 := tn1.same s2
    have ca2 : CircAt H2 C x ys := ⟨dx, nmA, ex, tn2⟩
    have p2 := p1.same s2
    have X2 : ExtP a H H2 := x1.trans (.of s2)
    clear kb ex sM nx ndx nex tn1 p1 x1 s2
    refine ⟨_, rfl, _, rfl, a, nmA, 5, _, ys, rfl, p2, by omega, nma, tn2, nk, by omega, by decide, by decide, fun t0 one0 H3 x3 p3 ht3 o10 => ?_⟩
    have k23 := Keep.ext p2 x3
    have tn3 := tn2.keep k23
    refine ⟨_, rfl, _, rfl, a, nmA, 5, _, ys, rfl, p3, by omega, nma, tn3, nk, by omega, by decide, by decide, fun u0 two0 H4 x4 p4 hu4 o20 => ?_⟩
    have k34 := Keep.ext p3 x4
    have k24 := k23.trans k34
    refine ⟨few_ok rfl, fun tp ntp => ⟨tp, _, rfl, .inl (.inl upd_same), rfl, _, _, rfl, _, _, rfl, _, _, rfl, rfl, ?_⟩⟩
    have s5 : Same H4 (upd H4 tp (.tup [.ref x, .ref t0, .ref u0])) := same_new ntp
    generalize upd H4 tp (.tup [.ref x, .ref t0, .ref u0]) = H5 at s5 ⊢
    have k25 := k24.trans (.of s5)
    have tn5 := tn2.keep k25
    have ca5 := ca2.keep k25
    have ht5 := ht3.keep (k34.trans (.of s5))
    have hu5 := hu4.same s5
    have p5 := p4.same s5
    have X5 : ExtP a H H5 := (X2.trans (x3.trans x4)).trans (.of s5)
    clear s5 ntp k25 k24 k34 k23 tn2 tn3 ca2 ht3 hu4 p2 p3 p4 x3 x4 X2
    refine ⟨_, rfl, _, rfl, few_ok rfl, fun q nq => ?_⟩
    have s6 : Same H5 (upd H5 q (.tup [.ref t0, .ref u0])) := same_new nq
    have eq6 : upd H5 q (.tup [.ref t0, .ref u0]) q = some (.tup [.ref t0, .ref u0]) := upd_same
    generalize upd H5 q (.tup [.ref t0, .ref u0]) = H6 at s6 eq6 ⊢
    have tn6 := tn5.same s6
    have ca6 := ca5.same' s6
    have ht6 := ht5.same s6
    have hu6 := hu5.same s6
    have p6 := p5.same s6
    have X6 : ExtP a H H6 := X5.trans (.of s6)
    have qa : q ≠ a := fun z => p5.ne (by rw [← z]; exact nq)
    clear s6 nq tn5 ca5 ht5 hu5 p5 X5
    refine ⟨q, rfl, ⟨_, SqT.of eq6⟩, fun D nD => ?_⟩
    have Da : D ≠ a := fun z => p6.ne (by rw [← z]; exact nD)
    obtain ⟨M, hM, hM2⟩ : ∃ M, M = N + 20 + 40 + 40 ∧ M ≤ 6000 := ⟨_, rfl, by omega⟩
    rw [← hM] at p6
    refine lc_it (walk_tup (a := q) (xs := [.ref t0, .ref u0])) (fun j H' => ∃ (vs : List V) (fs : List (List (List Str))), H' D = some (.lst vs) ∧ Paired (RelF ys H') vs fs ∧ vs.length = j ∧ PotAt a (M + j) H' ∧ ExtP a H6 H') ⟨[], [], upd_same, .nil, rfl, p6.same (same_new nD), .of (same_new nD)⟩ (fun j H' _ ⟨_, _, _, _, _, _, x'⟩ => SqT.of (x' _ _ qa eq6)) ?_ ?_
    · rintro j y H8 H8' hj ⟨vs, fs, eD, pf, vl, p8, x8⟩ ⟨rfl, hy⟩
      have j2 : j < 2 := hj
      have k68 := Keep.ext p6 x8
      obtain ⟨t, rows, rfl, hr8, ro⟩ : ∃ (t : Addr) (rows : List (List Str)), y = .ref t ∧ FamAt H8' t rows ∧ FamOk ys rows := by
        match j, hy with
        | 0, h => exact ⟨t0, one0, (Option.some.inj h).symm, ht6.keep k68, o10⟩
        | 1, h => exact ⟨u0, two0, (Option.some.inj h).symm, hu6.keep k68, o20⟩
        | _ + 2, h => simp at h
      refine ⟨rfl, _, rfl, a, 10, _, rfl, p8, by omega, by decide, by decide, fun i H9 i0 i1 x9 p9 => ⟨rfl, _, rfl, ?_⟩⟩
      have eD9 := x9 _ _ Da eD
      have k89 := Keep.ext p8 x9
      have fin : ∀ (tt : Addr) (rr : List (List Str)) (HH : Hp), Same H9 HH → FamAt HH tt rr → FamOk ys rr → ∃ acc, HH D = some (.lst acc) ∧ acc.length < sizeLine ∧ ∃ (vs : List V) (fs : List (List (List Str))), (upd HH D (.lst (acc ++ [.ref tt]))) D = some (.lst vs) ∧ Paired (RelF ys (upd HH D (.lst (acc ++ [.ref tt])))) vs fs ∧ vs.length = j + 1 ∧ PotAt a (M + (j + 1)) (upd HH D (.lst (acc ++ [.ref tt]))) ∧ ExtP a H6 (upd HH D (.lst (acc ++ [.ref tt]))) := fun tt rr HH sH fH oH => by
        have eDH := sH _ _ eD9
        have kD : Keep HH (upd HH D (.lst (vs ++ [.ref tt]))) := .upd eDH
        refine ⟨vs, eDH, by rw [sizeLine_eq]; omega, vs ++ [.ref tt], fs ++ [rr], upd_same, ?_, by simp [vl], ?_, ?_⟩
        · exact paired_append (Paired.mapP pf fun v s r => RelF.keepP (k89.trans ((Keep.of sH).trans kD)) v s r) (.cons ⟨tt, rfl, fH.keep kD, oH⟩ .nil)
        · obtain ⟨o, b, c, e, r⟩ := p9.same sH
          exact ⟨o, b, c, by rw [upd_ne Da.symm]; exact e, r⟩
        · intro b o nb e
          rw [upd_ne (ne_of_none e nD)]
          exact sH _ _ (x9 _ _ nb (x8 _ _ nb e))
      by_cases hi : decide (V.int i = V.int 0) = true
      · refine iteA hi ⟨few_ok rfl, fun e1 ne1 => ⟨few_ok rfl, fun e2 ne2 => ?_⟩⟩
        have s1 : Same H9 (upd H9 e1 (.tup [])) := same_new ne1
        have s2' := same_new (o := HO.tup [.ref e1]) ne2
        exact fin e2 [[]] _ (s1.trans s2') ⟨[.ref e1], upd_same, .cons ⟨e1, rfl, s2' _ _ upd_same⟩ .nil⟩ (fam_zero o10 nk.nd)
      · exact iteB (Bool.eq_false_iff.mpr hi) ⟨_, rfl, fin t rows H9 (Same.refl _) (hr8.keep k89) ro⟩
    rintro H7 ⟨vs, fs, eD7, pf, vl, p7, x67⟩
    have vl : vs.length = 2 := vl
    have p7 : PotAt a (M + 2) H7 := p7
    obtain ⟨t1, u1, one, two, rfl, ht7, hu7, o1, o2⟩ : ∃ (t1 u1 : Addr) (one two : List (List Str)), vs = [.ref t1, .ref u1] ∧ FamAt H7 t1 one ∧ FamAt H7 u1 two ∧ FamOk ys one ∧ FamOk ys two := by
      cases pf with
      | nil => cases vl
      | cons h1 pf =>
        cases pf with
        | nil => cases vl
        | cons h2 pf =>
          cases pf with
          | nil =>
            obtain ⟨t1, rfl, f1, g1⟩ := h1
            obtain ⟨u1, rfl, f2, g2⟩ := h2
            exact ⟨t1, u1, _, _, rfl, f1, f2, g1, g2⟩
          | cons h3 pf => simp at vl
    have k67 := Keep.ext p6 x67
    have tn7 := tn6.keep k67
    have ca7 := ca6.keep k67
    have X7 : ExtP a H H7 := X6.trans x67
    clear pf vl k67 tn6 ca6 ht6 hu6 p6 X6 x67 o10 o20 eq6 nD
    refine ⟨D, _, rfl, SqL.of eD7, rfl, _, _, rfl, _, _, rfl, rfl, ?_⟩
    clear eD7
    have l1 := o1.few nk.nd nk.k6
    have l2 := o2.few nk.nd nk.k6
    have r1 : ∀ r ∈ one, r.length ≤ 6 := fun r hr => Nat.le_trans (o1.sub r hr).length_le z6
    have r2 : ∀ r ∈ two, r.length ≤ 6 := fun r hr => Nat.le_trans (o2.sub r hr).length_le z6
    -- every
    refine ⟨_, rfl, nmA, ys, rfl, tn7.sq, z6, fun E0 ts rws H8 s8 nE eE pE lo => ?_⟩
    have Ea : E0 ≠ a := fun z => p7.ne (by rw [← z]; exact nE)
    have tn8 := tn7.same s8
    have ca8 := ca7.same' s8
    have ht8 := ht7.same s8
    have hu8 := hu7.same s8
    have p8 := p7.same s8
    have X8 : ExtP a H H8 := X7.trans (.of s8)
    clear s8 nE tn7 ca7 ht7 hu7 p7 X7
    have r64 := lots_64 lo z6
    have rnd := lots_nodup nk.nd lo
    have rsub : ∀ r ∈ rws, r.Sublist ys := fun r hr => lots_sub lo hr
    have tl := paired_len pE
    have rpos : 0 < rws.length := List.length_pos_of_mem (lots_has lo nk.nd (List.nil_sublist _))
    obtain ⟨es, rfl, hes, tps8⟩ := rows_addrF pE
    have esl : es.length = rws.length := by rw [← hes, List.length_map]
    -- some
    refine ⟨_, rfl, _, rfl, _, rfl, _, rfl, E0, _, rfl, .inl (SqL.of eE), _, _, rfl, a, _, _, rfl, p8, by omega, ?_, ?_, fun i H9 i0 i1 x9 p9 => ⟨_, _, rfl, rfl, a, E0, _, _, es.map fun y => V.ref y.1, rfl, p9, ?_, .inl (SqL.of (x9 _ _ Ea eE)), by omega, ?_, by rw [List.length_map]; omega, fun ss S H10 sel2 ssl x10 p10 nS _ eS => ?_⟩⟩
    · rw [List.length_map]; split <;> omega
    · rw [List.length_map]; split <;> omega
    · rw [List.length_map] at i1
      have : i < 9 := by split at i1 <;> omega
      omega
    · rw [List.length_map] at i1 ⊢
      have : i < es.length := by split at i1 <;> omega
      omega
    rw [List.length_map] at i1
    have i9 : i < 9 := by split at i1 <;> omega
    obtain ⟨ws, rfl, selw⟩ := sel2.map
    have wl : ws.length ≤ 9 := by rw [List.length_map] at ssl; omega
    have wpos : 0 < ws.length := by rw [List.length_map] at ssl; omega
    have x810 := x9.trans x10
    have k810 := Keep.ext p8 x810
    have tps10 : ∀ y ∈ es, H10 y.1 = some (.tup (y.2.map V.str)) := fun y hy => k810 _ _ (tps8 y hy) fun _ z => by cases z
    have tn10 := tn8.keep k810
    have ca10 := ca8.keep k810
    have ht10 := ht8.keep k810
    have hu10 := hu8.keep k810
    have eE10 := x810 _ _ Ea eE
    have X10 : ExtP a H H10 := X8.trans x810
    have wsub : ∀ y ∈ ws, y ∈ es := selw.subF
    obtain ⟨srows, hsr⟩ : ∃ srows, srows = ws.map (·.2) := ⟨_, rfl⟩
    have snd : srows.Nodup := by
      obtain ⟨rest, pm⟩ := selw
      have := (pm.map (·.2)).nodup_iff.mpr (by rw [hes]; exact rnd)
      rw [List.map_append] at this
      rw [hsr]
      exact this.sublist (List.sublist_append_left _ _)
    have ssub : ∀ r ∈ srows, r.Sublist ys := fun r hr => by
      rw [hsr] at hr
      obtain ⟨y, hy, rfl⟩ := List.mem_map.mp hr
      exact rsub _ (by rw [← hes]; exact List.mem_map.mpr ⟨y, wsub y hy, rfl⟩)
    have slen : srows.length = ws.length := by rw [hsr, List.length_map]
    have sne : srows ≠ [] := fun z => by rw [z] at slen; simp at slen; omega
    have pw : ∀ {HH : Hp}, Same H10 HH → Paired (RelT HH) (ws.map fun y => V.ref y.1) srows := fun sH => by
      rw [hsr]
      exact paired_map_of fun y hy => ⟨y.1, rfl, sH _ _ (tps10 y (wsub y hy))⟩
    have nRw : ∀ {rr : List (List Str)}, (∀ r ∈ rr, r.Sublist ys) → rr.length ≤ 64 → Nice 1000000 50 (.tuple (rr.map fun r => PyData.tuple (strsD r))) := fun h1 h2 => (nice_rows nk h1 h2).mono (by decide) (by decide)
    have lsub : ∀ p, ∀ r ∈ leastF p rws, r.Sublist ys := fun p r hr => rsub r (leastF_mem r hr)
    have llen : ∀ p, (leastF p rws).length ≤ 64 := fun p => Nat.le_trans (leastF_len _ _) r64
    have eqR : ∀ d : Str, (!decide (V.str d = V.str d)) = false := fun d => by rw [decide_eq_true rfl]; rfl
    clear sel2 ssl x9 x10 x810 p9 tps8 tn8 ca8 ht8 hu8 eE p8 X8 k810 i0 i1 nS
    -- least
    refine ⟨_, rfl, _, rfl, .inl ⟨S, _, rfl, SqL.of eS, fun q0 nq0 => ?_⟩⟩
    have s11 : Same H10 (upd H10 q0 (.tup (ws.map fun y => V.ref y.1))) := same_new nq0
    have eq11 : upd H10 q0 (.tup (ws.map fun y => V.ref y.1)) q0 = some (.tup (ws.map fun y => V.ref y.1)) := upd_same
    generalize upd H10 q0 (.tup (ws.map fun y => V.ref y.1)) = H11 at s11 eq11 ⊢
    refine ⟨x, q0, ys, srows, rfl, ca10.same' s11, nk, ⟨_, eq11, pw s11⟩, ssub, sne, by omega, snd, fun r0 rws2 H12 s12 lo2 fr => ?_⟩
    obtain rfl := lots_uniq lo lo2
    have s112 := s11.trans s12
    refine ⟨_, _, rfl, dp_fam fr, nRw (lsub _) (llen _), _, rfl, _, rfl, nmA, S, ys, _, srows, rfl, (tn10.same s112).sq, nk, s112 _ _ eS, pw s112, ssub, fun q2 us rws3 H13 s13 eq2 pu2 lo3 => ?_⟩
    obtain rfl := lots_uniq lo lo3
    refine ⟨_, _, rfl, .tup (SqT.of eq2) (dp_rows pu2), nRw (lsub _) (llen _), rfl, _, rfl, iteB (eqR _) ?_⟩
    have s1013 := s112.trans s13
    have tn13 := tn10.same s1013
    have ca13 := ca10.same' s1013
    have ht13 := ht10.same s1013
    have hu13 := hu10.same s1013
    have p13 := p10.same s1013
    have eE13 := s1013 _ _ eE10
    have tps13 : ∀ y ∈ es, H13 y.1 = some (.tup (y.2.map V.str)) := fun y hy => s1013 _ _ (tps10 y hy)
    have X13 : ExtP a H H13 := X10.trans (.of s1013)
    clear fr pu2 eq2 s11 s12 s13 s112 s1013 eq11 nq0 tn10 ca10 ht10 hu10 p10 eE10 tps10 X10 eS pw lo2 lo3
    -- members
    refine ⟨_, rfl, _, rfl, nmA, t1, ys, one, rfl, tn13.sq, z6, ht13, by omega, r1, fun Mi ms rws4 H14 s14 eMi pMi lo4 => ?_⟩
    obtain rfl := lots_uniq lo lo4
    refine ⟨_, rfl, _, rfl, nmA, u1, ys, two, rfl, (tn13.same s14).sq, z6, hu13.same s14, by omega, r2, fun It is rws5 H15 s15 eIt pIt lo5 => ?_⟩
    obtain rfl := lots_uniq lo lo5
    refine ⟨few_ok rfl, fun tq ntq => ⟨tq, _, rfl, .inl (.inl upd_same), rfl, _, _, rfl, _, _, rfl, rfl, ?_⟩⟩
    have s16 : Same H15 (upd H15 tq (.tup [.ref Mi, .ref It])) := same_new ntq
    generalize upd H15 tq (.tup [.ref Mi, .ref It]) = H16 at s16 ⊢
    have s516 := s15.trans s16
    have s416 := s14.trans s516
    have tn16 := tn13.same s416
    have ca16 := ca13.same' s416
    have ht16 := ht13.same s416
    have hu16 := hu13.same s416
    have p16 := p13.same s416
    have eE16 := s416 _ _ eE13
    have eMi16 := s516 _ _ eMi
    have eIt16 := s16 _ _ eIt
    have pMi16 := rows_keep pMi (.of s516)
    have pIt16 := rows_keep pIt (.of s16)
    have tps16 : ∀ y ∈ es, H16 y.1 = some (.tup (y.2.map V.str)) := fun y hy => s416 _ _ (tps13 y hy)
    have X16 : ExtP a H H16 := X13.trans (.of s416)
    clear s14 s15 s16 s516 s416 ntq tn13 ca13 ht13 hu13 p13 eE13 eMi eIt pMi pIt tps13 X13 lo4 lo5
    have ml := paired_len pMi16
    have il := paired_len pIt16
    have mlen : (rws.filter (hasB one)).length ≤ 64 := Nat.le_trans (List.length_filter_le _ _) r64
    have ilen : (rws.filter (hasB two)).length ≤ 64 := Nat.le_trans (List.length_filter_le _ _) r64
    have msub : ∀ r ∈ rws.filter (hasB one), r.Sublist ys := fun r hr => rsub r (List.mem_filter.mp hr).1
    have isub : ∀ r ∈ rws.filter (hasB two), r.Sublist ys := fun r hr => rsub r (List.mem_filter.mp hr).1
    -- joined
    refine ⟨_, rfl, _, rfl, _, rfl, x, t1, u1, ys, one, two, rfl, ca16, nk, ht16, hu16, o1, o2, fun r0 rws2 H17 s17 lo2 fr => ?_⟩
    obtain rfl := lots_uniq lo lo2
    refine ⟨_, _, rfl, dp_fam fr, nRw (lsub _) (llen _), _, rfl, _, rfl, _, rfl, Mi, It, ms, is, rfl, rfl, s17 _ _ eMi16, s17 _ _ eIt16, by rw [sizeLine_eq]; omega, fun l6 nl6 => ?_⟩
    have s18 := s17.trans (same_new (o := HO.lst (ms ++ is)) nl6)
    have e18 := upd_same (H := H17) (a := l6) (o := HO.lst (ms ++ is))
    generalize upd H17 l6 (.lst (ms ++ is)) = H18 at s18 e18 ⊢
    refine ⟨nmA, l6, ys, _, _, rfl, (tn16.same s18).sq, nk, e18, paired_append (rows_keep pMi16 (.of s18)) (rows_keep pIt16 (.of s18)), fun r hr => (List.mem_append.mp hr).elim (msub r) (isub r), fun q2 us rws3 H19 s19 eq2 pu2 lo3 => ?_⟩
    obtain rfl := lots_uniq lo lo3
    rw [← joined_least nk.nd lo o1.sub o2.sub] at pu2
    refine ⟨_, _, rfl, .tup (SqT.of eq2) (dp_rows pu2), nRw (lsub _) (llen _), rfl, _, rfl, iteB (eqR _) ?_⟩
    have s1619 := s18.trans s19
    have tn19 := tn16.same s1619
    have ca19 := ca16.same' s1619
    have ht19 := ht16.same s1619
    have hu19 := hu16.same s1619
    have p19 := p16.same s1619
    have eE19 := s1619 _ _ eE16
    have eMi19 := s1619 _ _ eMi16
    have eIt19 := s1619 _ _ eIt16
    have pMi19 := rows_keep pMi16 (.of s1619)
    have pIt19 := rows_keep pIt16 (.of s1619)
    have tps19 : ∀ y ∈ es, H19 y.1 = some (.tup (y.2.map V.str)) := fun y hy => s1619 _ _ (tps16 y hy)
    have X19 : ExtP a H H19 := X16.trans (.of s1619)
    clear s17 s18 s19 s1619 nl6 e18 fr eq2 pu2 tn16 ca16 ht16 hu16 p16 eE16 eMi16 eIt16 pMi16 pIt16 tps16 X16 lo2 lo3
    -- shared
    refine ⟨_, rfl, _, rfl, _, rfl, x, t1, u1, ys, one, two, rfl, ca19, nk, ht19, hu19, o1, o2, fun r0 rws2 H20 s20 lo2 fr => ?_⟩
    obtain rfl := lots_uniq lo lo2
    obtain ⟨mz, m1, m2, m3⟩ := paired_zip pMi19
    have mzl : mz.length = ms.length := by rw [← m1, List.length_map]
    have niI : Nice (64 * (6 * (8 + 1) + 1)) 2 (.list ((rws.filter (hasB two)).map fun r => PyData.tuple (strsD r))) := Nice.lst (fun d hd => by
      obtain ⟨z, hz, rfl⟩ := List.mem_map.mp hd
      exact nice_lot nk (isub z hz)) (by rw [List.length_map]; exact ilen)
    refine ⟨_, _, rfl, dp_fam fr, nRw (lsub _) (llen _), _, rfl, _, rfl, Mi, rfl, ⟨_, SqL.of (s20 _ _ eMi19)⟩, fun G nG => lc_fm (walk_list (a := Mi) (xs := ms)) mz (fun z => if decide (z.2 ∈ rws.filter (hasB two)) = true then some z.1 else none) (by rw [mzl]) (by omega) nG (fun H s => s.seq (SqL.of (s20 _ _ eMi19))) ?_ ?_⟩
    · rintro j u ⟨zv, row⟩ H21 H21' R Rn hz s21 ⟨rfl, hu⟩ k1 k2
      obtain ⟨p, ez, ep⟩ := m3 _ (List.mem_of_getElem? hz)
      dsimp only at ez ep
      subst ez
      obtain rfl : V.ref p = u := by
        rw [← m1, List.getElem?_map, hz] at hu
        exact Option.some.inj hu
      have row_in : row ∈ rws.filter (hasB one) := by
        rw [← m2]
        exact List.mem_map.mpr ⟨_, List.mem_of_getElem? hz, rfl⟩
      have s2021 := s20.trans s21
      refine ⟨rfl, _, rfl, _, rfl, .tuple (strsD row), (rws.filter (hasB two)).map fun r => .tuple (strsD r), .tup (SqT.of (s2021 _ _ ep)) (dp_strs _), .lst (SqL.of (s2021 _ _ eIt19)) (dp_rows (rows_keep pIt19 (.of s2021))), (nice_lot nk (msub row row_in)).shaped (by decide), niI.shaped (by decide), _, rfl, ?_⟩
      rw [in_rows]
      by_cases hin : row ∈ rws.filter (hasB two)
      · exact iteA (decide_eq_true hin) ⟨_, rfl, k1 _ _ (if_pos (decide_eq_true hin)) (Same.refl _)⟩
      · exact iteB (decide_eq_false hin) (k2 _ (if_neg (by rw [decide_eq_false hin]; decide)) (Same.refl _))
    intro H21 s21 eG
    rw [fm_rowsE (fun r => decide (r ∈ rws.filter (hasB two)))] at eG
    have s2021 := s20.trans s21
    have pG : Paired (RelT H21) ((mz.filter fun z => decide (z.2 ∈ rws.filter (hasB two))).map (·.1)) ((rws.filter (hasB one)).filter fun r => decide (r ∈ rws.filter (hasB two))) := by
      have e : (rws.filter (hasB one)).filter (fun r => decide (r ∈ rws.filter (hasB two))) = (mz.filter fun z => decide (z.2 ∈ rws.filter (hasB two))).map (·.2) := by
        rw [← m2, List.filter_map]
        rfl
      rw [e]
      exact paired_ofE fun z hz => RelT.keepP (.of s2021) _ _ (m3 z (List.mem_filter.mp hz).1)
    refine ⟨nmA, G, ys, _, _, rfl, (tn19.same s2021).sq, nk, eG, pG, fun r hr => msub r (List.mem_filter.mp hr).1, fun q2 us rws3 H22 s22 eq2 pu2 lo3 => ?_⟩
    obtain rfl := lots_uniq lo lo3
    rw [← shared_least nk.nd lo o1.sub o2.sub] at pu2
    refine ⟨_, _, rfl, .tup (SqT.of eq2) (dp_rows pu2), nRw (lsub _) (llen _), rfl, _, rfl, iteB (eqR _) ?_⟩
    have s1922 := s2021.trans s22
    have tn22 := tn19.same s1922
    have ca22 := ca19.same' s1922
    have ht22 := ht19.same s1922
    have hu22 := hu19.same s1922
    have p22 := p19.same s1922
    have eE22 := s1922 _ _ eE19
    have eMi22 := s1922 _ _ eMi19
    have m322 : ∀ z ∈ mz, RelT H22 z.1 z.2 := fun z hz => RelT.keepP (.of s1922) _ _ (m3 z hz)
    have tps22 : ∀ y ∈ es, H22 y.1 = some (.tup (y.2.map V.str)) := fun y hy => s1922 _ _ (tps19 y hy)
    have X22 : ExtP a H H22 := X19.trans (.of s1922)
    clear s20 s21 s22 s2021 s1922 eG pG nG fr eq2 pu2 tn19 ca19 ht19 hu19 p19 eE19 eMi19 eIt19 pMi19 pIt19 tps19 X19 lo2 lo3 m3 niI
    -- sizes
    refine ⟨_, rfl, Mi, rfl, ⟨_, SqL.of eMi22⟩, fun Z nZ => lc_fm (walk_list (a := Mi) (xs := ms)) mz (fun z => some (V.int (z.2.length : Int))) (by rw [mzl]) (by omega) nZ (fun H s => s.seq (SqL.of eMi22)) ?_ ?_⟩
    · rintro j u ⟨zv, row⟩ H23 H23' R Rn hz s23 ⟨rfl, hu⟩ k1 k2
      obtain ⟨p, ez, ep⟩ := m322 _ (List.mem_of_getElem? hz)
      dsimp only at ez ep
      subst ez
      obtain rfl : V.ref p = u := by
        rw [← m1, List.getElem?_map, hz] at hu
        exact Option.some.inj hu
      refine ⟨rfl, _, rfl, p, _, rfl, .inr (SqT.of (s23 _ _ ep)), k1 _ _ ?_ (Same.refl _)⟩
      show some (V.int (row.length : Int)) = _
      rw [List.length_map]
    intro H23 s23 eZ
    rw [fe_int, m2] at eZ
    obtain ⟨sz, hsz⟩ : ∃ sz : List Int, sz = (rws.filter (hasB one)).map fun r => (r.length : Int) := ⟨_, rfl⟩
    rw [← hsz] at eZ
    -- many
    have nS := (nice_sizes z6 mlen).mono (m := 1000000) (j := 50) (by decide) (by decide)
    refine ⟨_, rfl, _, rfl, x, t1, ys, one, rfl, ca22.same' s23, nk, ht22.same s23, o1, fun r0 rws2 H24 s24 lo2 er => ?_⟩
    obtain rfl := lots_uniq lo lo2
    have s2224 := s23.trans s24
    have eZ24 := s24 _ _ eZ
    refine ⟨_, intsD (sizesL ys.length (rws.filter (hasB one))), rfl, .tup (SqT.of er) (dp_intsF _), nS, _, rfl, nmA, _, rfl, .inr (tn22.same s2224).sq, _, _, rfl, rfl, _, rfl, by rw [List.length_map]; omega, by rw [List.length_map]; omega, fun D1 nD1 => ?_⟩
    rw [List.length_map]
    have eT : ((ys.length : Nat) + 1 : Int).toNat = ys.length + 1 := by omega
    refine lc_fm (walk_range (n := ((ys.length : Nat) + 1 : Int).toNat)) (List.range (ys.length + 1)) (fun m => some (.int ((sz.count (m : Int) : Nat) : Int))) (by rw [eT, List.length_range]) (by rw [eT]; omega) nD1 (fun _ _ => trivial) ?_ ?_
    · rintro j u m H25 H25' R Rn ha s25 ⟨rfl, rfl⟩ k1 k2
      obtain ⟨hi, rfl⟩ : j < ys.length + 1 ∧ j = m := by
        obtain ⟨h2, h3⟩ := List.getElem?_eq_some_iff.mp ha
        rw [List.length_range] at h2
        rw [List.getElem_range] at h3
        exact ⟨h2, h3⟩
      have eZ25 := s25 _ _ eZ24
      refine ⟨rfl, _, rfl, .inl ⟨rfl, _, SqL.of eZ25⟩, _, rfl, Z, sz, _, rfl, rfl, SqL.of eZ25, k1 _ _ ?_ (Same.refl _)⟩
      show some (V.int ((sz.count (j : Int) : Nat) : Int)) = some (V.int ((sz.count (0 + (j : Nat) : Int) : Nat) : Int))
      rw [Int.zero_add]
    intro H25 s25 eC
    have fe2 : ((List.range (ys.length + 1)).filterMap fun m : Nat => some (V.int ((sz.count (m : Int) : Nat) : Int))) = (sizesL ys.length (rws.filter (hasB one))).map V.int := by
      unfold sizesL
      rw [List.map_map, hsz]
      simp
    rw [fe2] at eC
    refine .inl ⟨D1, _, rfl, SqL.of eC, fun q2 nq2 => ?_⟩
    have s26 : Same H25 (upd H25 q2 (.tup ((sizesL ys.length (rws.filter (hasB one))).map V.int))) := same_new nq2
    have e26 : upd H25 q2 (.tup ((sizesL ys.length (rws.filter (hasB one))).map V.int)) q2 = some (.tup ((sizesL ys.length (rws.filter (hasB one))).map V.int)) := upd_same
    generalize upd H25 q2 (.tup ((sizesL ys.length (rws.filter (hasB one))).map V.int)) = H26 at s26 e26 ⊢
    refine ⟨_, intsD (sizesL ys.length (rws.filter (hasB one))), rfl, .tup (SqT.of e26) (dp_intsF _), nS, rfl, _, rfl, iteB (eqR _) ?_⟩
    have s2226 := s2224.trans (s25.trans s26)
    have tn26 := tn22.same s2226
    have ca26 := ca22.same' s2226
    have ht26 := ht22.same s2226
    have hu26 := hu22.same s2226
    clear s26 e26 nq2 eC nD1 eZ24 eZ nZ er s23 s24 s25 lo2
    -- within
    refine ⟨_, rfl, _, rfl, _, rfl, _, rfl, nmA, x, t1, u1, ys, one, two, rfl, tn26, ca26, nk, ht26, hu26, o1, o2, fun H27 s27 => ⟨_, rfl, iteB rfl ?_⟩⟩
    refine ⟨_, rfl, _, rfl, _, rfl, _, rfl, nmA, x, u1, t1, ys, two, one, rfl, tn26.same s27, ca26.same' s27, nk, hu26.same s27, ht26.same s27, o2, o1, fun H28 s28 => ⟨_, rfl, iteB rfl ?_⟩⟩
    have s2228 := s2226.trans (s27.trans s28)
    have tn28 := tn22.same s2228
    have ca28 := ca22.same' s2228
    have ht28 := ht22.same s2228
    have p28 := p22.same s2228
    have eE28 := s2228 _ _ eE22
    have tps28 : ∀ y ∈ es, H28 y.1 = some (.tup (y.2.map V.str)) := fun y hy => s2228 _ _ (tps22 y hy)
    have X28 : ExtP a H H28 := X22.trans (.of s2228)
    clear s27 s28 s2226 s2228 s2224 tn26 ca26 ht26 hu26 tn22 ca22 ht22 hu22 p22 eE22 tps22 X22
    -- has
    refine ⟨_, rfl, _, rfl, _, rfl, E0, _, rfl, .inl (SqL.of eE28), _, _, rfl, a, E0, _, _, es.map fun y => V.ref y.1, rfl, p28, ?_, .inl (SqL.of eE28), ?_, ?_, by rw [List.length_map]; omega, fun ss S2 H29 sel3 ssl x29 p29 nS2 _ eS2 => ?_⟩
    · rw [List.length_map]; split <;> omega
    · rw [List.length_map]; split <;> omega
    · rw [List.length_map]; split <;> omega
    obtain ⟨ws3, rfl, selw3⟩ := sel3.map
    have wsub3 : ∀ y ∈ ws3, y ∈ es := selw3.subF
    have w3l : ws3.length ≤ 6 := by
      rw [List.length_map, List.length_map] at ssl
      rw [ssl]
      split <;> omega
    have k2829 := Keep.ext p28 x29
    have tn29 := tn28.keep k2829
    have ca29 := ca28.keep k2829
    have ht29 := ht28.keep k2829
    have tps29 : ∀ y ∈ es, H29 y.1 = some (.tup (y.2.map V.str)) := fun y hy => k2829 _ _ (tps28 y hy) fun _ z => by cases z
    have X29 : ExtP a H H29 := X28.trans x29
    clear sel3 selw3 k2829 x29 p28 tps28 tn28 ca28 ht28 X28
    refine ⟨few_ok rfl, fun e0 ne0 => ?_⟩
    have s30 : Same H29 (upd H29 e0 (.tup [])) := same_new ne0
    have ee0 : upd H29 e0 (.tup []) e0 = some (.tup []) := upd_same
    generalize upd H29 e0 (.tup []) = H30 at s30 ee0 ⊢
    refine ⟨_, rfl, few_ok rfl, fun l5 nl5 => ⟨S2, l5, _, _, rfl, rfl, same_new nl5 _ _ (s30 _ _ eS2), upd_same, by rw [sizeLine_eq, List.length_map]; show ws3.length + 2 ≤ 16777216; omega, fun l6 nl6 => ?_⟩⟩
    have s31 : Same H30 (upd H30 l5 (.lst [.ref e0, .ref nmA])) := same_new nl5
    have s32 := s31.trans (same_new (o := HO.lst ((ws3.map fun y => V.ref y.1) ++ [.ref e0, .ref nmA])) nl6)
    have e32 := upd_same (H := upd H30 l5 (.lst [.ref e0, .ref nmA])) (a := l6) (o := HO.lst ((ws3.map fun y => V.ref y.1) ++ [.ref e0, .ref nmA]))
    generalize upd (upd H30 l5 (.lst [.ref e0, .ref nmA])) l6 (.lst ((ws3.map fun y => V.ref y.1) ++ [.ref e0, .ref nmA])) = H32 at s32 e32 ⊢
    have s2932 := s30.trans s32
    refine ⟨l6, rfl, ⟨_, SqL.of e32⟩, all_over (walk_list (a := l6) (xs := (ws3.map fun y => V.ref y.1) ++ [.ref e0, .ref nmA])) (ws3 ++ [(e0, []), (nmA, ys)]) (fun y => V.ref y.1) (fun _ => true) (by rw [List.map_append]; rfl) (by rw [List.length_append]; show ws3.length + 2 ≤ 100000; omega) (fun H s => s.seq (SqL.of e32)) ?_ ?_⟩
    · rintro j y H33 R hy s33 kk
      have s2933 := s2932.trans s33
      have lt : LotE H33 y.1 y.2 ∧ y.2.Sublist ys := by
        rcases List.mem_append.mp (List.mem_of_getElem? hy) with hy | hy
        · exact ⟨.inl (s2933 _ _ (tps29 y (wsub3 y hy))), rsub _ (by rw [← hes]; exact List.mem_map.mpr ⟨y, wsub3 y hy, rfl⟩)⟩
        · rcases List.mem_cons.mp hy with rfl | hy
          · exact ⟨.inl ((s32.trans s33) _ _ ee0), List.nil_sublist _⟩
          · rw [List.mem_singleton.mp hy]
            exact ⟨.inr (tn29.same s2933), List.Sublist.refl _⟩
      exact ⟨rfl, _, rfl, _, rfl, _, rfl, x, t1, y.1, ys, y.2, one, rfl, ca29.same' s2933, nk, ht29.same s2933, o1, lt.1, lt.2, fun H34 s34 => kk _ s34⟩
    · intro H33 s33
      rw [show ((ws3 ++ [(e0, []), (nmA, ys)]).all fun _ => true) = true from List.all_eq_true.mpr fun _ _ => rfl]
      have s2933 := s2932.trans s33
      exact k _ (X29.trans (.of s2933)) ((p29.same s2933).mono (by omega))
end
end K6
set_option Elab.async false
set_option linter.all false
set_option maxRecDepth 100000
set_option maxHeartbeats 2000000
set_option pp.maxSteps 1200
set_option pp.deepTerms false
namespace K6
open PySem PySem.Spec PyProof.Rows L2 Lk
abbrev sLaw : Stmt := top 58
section
variable {P : Program} {w : World} {K : PySem.W.Frag} {mg : Str → Option Value} {base : Heap} {f : Addr} {fd : FuncData}
/-! ### law -/
def spLaw (K : PySem.W.Frag) : Sp := fun vs H Q _ => ∃ (a : Addr) (ns : List Int), vs = [.ref a] ∧ SqL K H a (ns.map V.int) ∧ ns.length ≤ 63 ∧ ∀ H', Q (.bl true) H'
abbrev nmL : List Str := ["script", "place", "pot", "lap"]
theorem scLaw : FnScope nmL ["script"] (defScope sLaw) := ⟨rfl, rfl, rfl, by decide +kernel, rfl, by decide +kernel, by decide +kernel⟩
theorem ok_law {fR fC fP : Addr} {fdR fdC fdP : FuncData} (F : Fun K "law" "law" sLaw f fd) (T : Bl mg)
    (GR : FnG P w K mg base 9 fR fdR ["pot"] spRight) (kR : PySem.W.keepIn K (.ref fR) = true) (bR : Binds K fdR ["pot"] []) (mR : mg "_law_right" = some (.ref fR))
    (FC : Fun K "_law_cells" "_law_cells" sCells fC fdC) (bC : Binds K fdC ["script", "limit"] []) (mC : mg "_law_cells" = some (.ref fC))
    (FP : Fun K "_law_pot" "_law_pot" sPot fP fdP) (bP : Binds K fdP ["script", "place"] []) (mP : mg "_law_pot" = some (.ref fP)) :
    FnG P w K mg base 10 f fd ["script"] (spLaw K) := by
  have GC : FnOk P w K mg base CX0 1 fC fdC ["script", "limit"] (spCells K) := ok_cells FC T
  have GP : FnOk P w K mg base CX0 1 fP fdP ["script", "place"] (spPot K) := ok_pot FP T
  refine FnG.of F scLaw (fun vs H Q h => ?_) (fun cdv A outer s H vs Q hr hG h => ?_)
  · obtain ⟨a, ns, rfl, _⟩ := h
    rfl
  · obtain ⟨a, ns, rfl, hs, hl, k⟩ := h
    have nd := scLaw.nd
    have hr1 : Room 1 _ := hr.mono (by decide)
    refine ⟨_, pss_cons (ps_for PassesOwn.never rfl (pi_list (pe_call GC hr1 (by rfl) mC FC.kp bC .nil pass0 (pa_cons (pv 0) (pa_cons pe_int pa_nil)))) (pg_name (i := 1) nd rfl (by first | exact .inl rfl | exact .inr rfl))
          (pss_cons (ps_set (i := 2) nd rfl (by first | exact .inl rfl | exact .inr rfl) (pe_call GP hr1 (by rfl) mP FP.kp bP .nil pass0 (pa_cons (pv 0) (pa_cons (pv 1) pa_nil))))
          (pss_one (ps_if (pt_not (pt_val (pe_callB (cr_all rfl) (by rfl) T.all boot_all (pa_cons (pe_lc (own := [("lap", 3)]) (g := gName 3) (tt := tYes) rfl nd (pi_range1 (by rfl) T.range (pa_cons pe_int pa_nil))
              (blkOk_by (N := nmL) (sc := defScope sLaw) (by decide +kernel)) (fun _ _ _ _ _ => pg_name (i := 3) nd rfl (by first | exact .inl rfl | exact .inr rfl)) (fun _ _ _ _ _ => pts_nil)
              (fun _ _ _ _ _ => pe_gcall GR hr hG (by rfl) mR kR bR (pa_cons (pv 2) pa_nil))) pa_nil)))) pss_no pss_nil))))
      (pss_one (ps_ret pe_bl)), ?_⟩
    refine ⟨_, rfl, a, ns, 4, rfl, hs, hl, by decide, by decide, fun l n hn nl => ?_⟩
    have sl : Same H (upd H l (.lst (rgV 0 (n : Int)))) := same_new nl
    have el : upd H l (.lst (rgV 0 (n : Int))) l = some (.lst (rgV 0 (n : Int))) := upd_same
    generalize upd H l (.lst (rgV 0 (n : Int))) = H1 at sl el ⊢
    have rl : (rgV 0 (n : Int)).length = n := by
      unfold rgV
      rw [List.length_map, List.length_range]
      omega
    refine ⟨l, rfl, ⟨_, SqL.of el⟩, for_list (xs := rgV 0 (n : Int)) (fun i σ H' => ∃ u1 u2 u3, σ = [some (V.ref a), u1, u2, u3] ∧ Same H1 H') ⟨none, none, none, rfl, Same.refl _⟩ (fun i σ H' _ ⟨_, _, _, _, s'⟩ => SqL.of (s' _ _ el)) ?_ ?_⟩
    · rintro i x σ Hq hx ⟨u1, u2, u3, rfl, sq⟩
      have hi : i < n := by rw [← rl]; exact (List.getElem?_eq_some_iff.mp hx).1
      obtain rfl : x = V.int (0 + (i : Nat)) := by
        unfold rgV at hx
        rw [List.getElem?_map, List.getElem?_range (by omega)] at hx
        exact (Option.some.inj hx).symm
      refine ⟨_, rfl, _, rfl, a, ns, _, rfl, sq.seq (sl.seq hs), hl, by omega, by omega, fun p H2 np s2 hp => ?_⟩
      refine ⟨2, rfl, by decide, by decide, fun D nD => ?_⟩
      have Dp' : D ≠ p := fun z => hp.ne (by rw [← z]; exact nD)
      refine lc_it (walk_range (n := 2)) (fun q H' => H' D = some (.lst (List.replicate q (V.bl true))) ∧ PotAt p (200 * q) H' ∧ ExtP p H2 H') ⟨upd_same, hp.same (same_new nD), .of (same_new nD)⟩ (fun _ _ _ _ => trivial) ?_ ?_
      · rintro j y H3 H3' hj ⟨eD, pt, x3⟩ ⟨rfl, rfl⟩
        have hj : j < 2 := hj
        refine ⟨rfl, ?_⟩
        unfold tYes
        refine iteT ?_
        refine ⟨_, rfl, p, 200 * j, rfl, pt, by omega, fun H4 x4 p4 => ?_⟩
        have eD4 := x4 _ _ Dp' eD
        refine ⟨_, eD4, by rw [List.length_replicate, sizeLine_eq]; omega, ?_, ?_, ?_⟩
        · rw [upd_same, List.replicate_succ']
        · obtain ⟨o, b, c, e, r⟩ := p4
          exact ⟨o, b, c, by rw [upd_ne Dp'.symm]; exact e, r⟩
        · intro b o nb e
          rw [upd_ne (ne_of_none e nD)]
          exact x4 _ _ nb (x3 _ _ nb e)
      · rintro H3 ⟨eD, pt, x3⟩
        have eq3 : H3 D = some (.lst ((List.replicate 2 true).map V.bl)) := by rw [eD, List.map_replicate]
        refine ⟨D, List.replicate 2 true, rfl, SqL.of eq3, ⟨_, rfl, iteB (by decide) ?_⟩⟩
        exact ⟨_, _, _, rfl, fun b o e => x3 b o (ne_of_none (sq _ _ e) np) (s2 _ _ (sq _ _ e))⟩
    · rintro σ Hq ⟨u1, u2, u3, rfl, sq⟩
      exact k Hq
end
end K6
set_option Elab.async false
set_option linter.all false
set_option maxRecDepth 100000
set_option maxHeartbeats 0
namespace K6
open PySem PySem.Spec PyProof.Rows L2 Lk
theorem fun_of {K : PySem.W.Frag} {x q : Str} {st : Stmt} {f : Addr} {fd : FuncData} (F : FunD K x q (defArgs st) (defBody st) (defScope st) [] [] f fd) : Fun K x q st f fd := by
  obtain ⟨⟨oc, od, dV, kV, doc, pm, an, cdv, ct, osl, e, lk, hcd, hd, _⟩, kp⟩ := F
  rcases hd with ⟨_, rfl⟩ | ⟨h, _⟩
  · exact ⟨⟨oc, od, kV, doc, pm, an, cdv, ct, osl, e, lk, hcd⟩, kp⟩
  · exact absurd rfl h
theorem facts {P : Program} {w : World} {K : PySem.W.Frag} {h : Heap} {mg : Str → Option Value} {f : Addr} (X : K.In h) (G : h.Ns mainGlobals mg) (hfa : mg ("law" : Str) = some (.ref f)) (c : obF K = (He.valD fn, true)) :
    ∃ fd : FuncData, (∀ (s : Shared) (v : Value), BindsTo s fd ⟨[v], []⟩ [("script", v)]) ∧ ∀ base : Heap, K.In base → base.Ns mainGlobals mg → FnG P w K mg base 10 f fd ["script"] (spLaw K) := by
  have cD : He.SaysD fa fn K := congrArg (fun z : He.AlD × Bool => z.1) c
  obtain ⟨fdx0, Dx0⟩ := cD.def_ 0 (d := dx0) rfl
  have Fx0 : Fun K "law" "law" sLaw (He.fAd K dx0.at_) fdx0 := fun_of Dx0
  have mx0 : mg "law" = some (.ref (He.fAd K dx0.at_)) := He.glo_ok X G (cD.fact 0 (f := .glo "law") rfl)
  obtain ⟨fdx1, Dx1⟩ := cD.def_ 1 (d := dx1) rfl
  have bx1 := FunD.bindsN (ps := ["pot"]) Dx1 fun _ _ _ _ _ _ us hl => match us, hl with | [_], _ => rfl
  have Fx1 : Fun K "_law_right" "_law_right" sRight (He.fAd K dx1.at_) fdx1 := fun_of Dx1
  have mx1 : mg "_law_right" = some (.ref (He.fAd K dx1.at_)) := He.glo_ok X G (cD.fact 1 (f := .glo "_law_right") rfl)
  obtain ⟨fdx2, Dx2⟩ := cD.def_ 2 (d := dx2) rfl
  have bx2 := FunD.bindsN (ps := ["self", "names"]) Dx2 fun _ _ _ _ _ _ us hl => match us, hl with | [_, _], _ => rfl
  have Fx2 : Fun K "__init__" "Circle.__init__" sCircInit (He.fAd K dx2.at_) fdx2 := fun_of Dx2
  obtain ⟨fdx3, Dx3⟩ := cD.def_ 3 (d := dx3) rfl
  have bx3 := FunD.bindsN (ps := ["pot", "few", "upmost"]) Dx3 fun _ _ _ _ _ _ us hl => match us, hl with | [_, _, _], _ => rfl
  have Fx3 : Fun K "_law_names" "_law_names" sNames (He.fAd K dx3.at_) fdx3 := fun_of Dx3
  have mx3 : mg "_law_names" = some (.ref (He.fAd K dx3.at_)) := He.glo_ok X G (cD.fact 2 (f := .glo "_law_names") rfl)
  obtain ⟨fdx4, Dx4⟩ := cD.def_ 4 (d := dx4) rfl
  have bx4 := FunD.bindsN (ps := ["pot", "upto"]) Dx4 fun _ _ _ _ _ _ us hl => match us, hl with | [_, _], _ => rfl
  have Fx4 : Fun K "_law_take" "_law_take" sTake (He.fAd K dx4.at_) fdx4 := fun_of Dx4
  have mx4 : mg "_law_take" = some (.ref (He.fAd K dx4.at_)) := He.glo_ok X G (cD.fact 3 (f := .glo "_law_take") rfl)
  obtain ⟨fdx5, Dx5⟩ := cD.def_ 5 (d := dx5) rfl
  have bx5 := FunD.bindsN (ps := ["pot", "pool", "amount"]) Dx5 fun _ _ _ _ _ _ us hl => match us, hl with | [_, _, _], _ => rfl
  have Fx5 : Fun K "_law_some" "_law_some" sSome (He.fAd K dx5.at_) fdx5 := fun_of Dx5
  have mx5 : mg "_law_some" = some (.ref (He.fAd K dx5.at_)) := He.glo_ok X G (cD.fact 4 (f := .glo "_law_some") rfl)
  obtain ⟨fdx6, Dx6⟩ := cD.def_ 6 (d := dx6) rfl
  have bx6 := FunD.bindsN (ps := ["value"]) Dx6 fun _ _ _ _ _ _ us hl => match us, hl with | [_], _ => rfl
  have Fx6 : Fun K "is_name" "is_name" sIsName (He.fAd K dx6.at_) fdx6 := fun_of Dx6
  have mx6 : mg "is_name" = some (.ref (He.fAd K dx6.at_)) := He.glo_ok X G (cD.fact 5 (f := .glo "is_name") rfl)
  obtain ⟨fdx7, Dx7⟩ := cD.def_ 7 (d := dx7) rfl
  have bx7 := FunD.bindsN (ps := ["some"]) Dx7 fun _ _ _ _ _ _ us hl => match us, hl with | [_], _ => rfl
  have Fx7 : Fun K "are_names" "are_names" sAreNames (He.fAd K dx7.at_) fdx7 := fun_of Dx7
  have mx7 : mg "are_names" = some (.ref (He.fAd K dx7.at_)) := He.glo_ok X G (cD.fact 6 (f := .glo "are_names") rfl)
  obtain ⟨fdx8, Dx8⟩ := cD.def_ 8 (d := dx8) rfl
  have bx8 := FunD.bindsN (ps := ["pot", "names", "most"]) Dx8 fun _ _ _ _ _ _ us hl => match us, hl with | [_, _, _], _ => rfl
  have Fx8 : Fun K "_law_family" "_law_family" sLFam (He.fAd K dx8.at_) fdx8 := fun_of Dx8
  have mx8 : mg "_law_family" = some (.ref (He.fAd K dx8.at_)) := He.glo_ok X G (cD.fact 7 (f := .glo "_law_family") rfl)
  obtain ⟨fdx9, Dx9⟩ := cD.def_ 9 (d := dx9) rfl
  have bx9 := FunD.bindsN (ps := ["pot", "some"]) Dx9 fun _ _ _ _ _ _ us hl => match us, hl with | [_, _], _ => rfl
  have Fx9 : Fun K "_law_of" "_law_of" sOf (He.fAd K dx9.at_) fdx9 := fun_of Dx9
  have mx9 : mg "_law_of" = some (.ref (He.fAd K dx9.at_)) := He.glo_ok X G (cD.fact 8 (f := .glo "_law_of") rfl)
  obtain ⟨fdx10, Dx10⟩ := cD.def_ 10 (d := dx10) rfl
  have bx10 := FunD.bindsN (ps := ["names", "some"]) Dx10 fun _ _ _ _ _ _ us hl => match us, hl with | [_, _], _ => rfl
  have Fx10 : Fun K "_law_lot_of" "_law_lot_of" sLotOf (He.fAd K dx10.at_) fdx10 := fun_of Dx10
  have mx10 : mg "_law_lot_of" = some (.ref (He.fAd K dx10.at_)) := He.glo_ok X G (cD.fact 9 (f := .glo "_law_lot_of") rfl)
  obtain ⟨fdx11, Dx11⟩ := cD.def_ 11 (d := dx11) rfl
  have bx11 := FunD.bindsN (ps := ["names", "some"]) Dx11 fun _ _ _ _ _ _ us hl => match us, hl with | [_, _], _ => rfl
  have Fx11 : Fun K "_law_least_lots" "_law_least_lots" sLeastL (He.fAd K dx11.at_) fdx11 := fun_of Dx11
  have mx11 : mg "_law_least_lots" = some (.ref (He.fAd K dx11.at_)) := He.glo_ok X G (cD.fact 10 (f := .glo "_law_least_lots") rfl)
  obtain ⟨fdx12, Dx12⟩ := cD.def_ 12 (d := dx12) rfl
  have bx12 := FunD.bindsN (ps := ["names"]) Dx12 fun _ _ _ _ _ _ us hl => match us, hl with | [_], _ => rfl
  have Fx12 : Fun K "_law_all_lots" "_law_all_lots" sAllLots (He.fAd K dx12.at_) fdx12 := fun_of Dx12
  have mx12 : mg "_law_all_lots" = some (.ref (He.fAd K dx12.at_)) := He.glo_ok X G (cD.fact 11 (f := .glo "_law_all_lots") rfl)
  obtain ⟨fdx13, Dx13⟩ := cD.def_ 13 (d := dx13) rfl
  have bx13 := FunD.bindsN (ps := ["one", "other"]) Dx13 fun _ _ _ _ _ _ us hl => match us, hl with | [_, _], _ => rfl
  have Fx13 : Fun K "_law_is_inside" "_law_is_inside" sInside (He.fAd K dx13.at_) fdx13 := fun_of Dx13
  have mx13 : mg "_law_is_inside" = some (.ref (He.fAd K dx13.at_)) := He.glo_ok X G (cD.fact 12 (f := .glo "_law_is_inside") rfl)
  obtain ⟨fdx14, Dx14⟩ := cD.def_ 14 (d := dx14) rfl
  have bx14 := FunD.bindsN (ps := ["circle", "some"]) Dx14 fun _ _ _ _ _ _ us hl => match us, hl with | [_, _], _ => rfl
  have Fx14 : Fun K "least" "least" sLeastP (He.fAd K dx14.at_) fdx14 := fun_of Dx14
  have mx14 : mg "least" = some (.ref (He.fAd K dx14.at_)) := He.glo_ok X G (cD.fact 13 (f := .glo "least") rfl)
  obtain ⟨fdx15, Dx15⟩ := cD.def_ 15 (d := dx15) rfl
  have bx15 := FunD.bindsN (ps := ["circle", "value"]) Dx15 fun _ _ _ _ _ _ us hl => match us, hl with | [_, _], _ => rfl
  have Fx15 : Fun K "are_lots" "are_lots" sAreLots (He.fAd K dx15.at_) fdx15 := fun_of Dx15
  have mx15 : mg "are_lots" = some (.ref (He.fAd K dx15.at_)) := He.glo_ok X G (cD.fact 14 (f := .glo "are_lots") rfl)
  obtain ⟨fdx16, Dx16⟩ := cD.def_ 16 (d := dx16) rfl
  have bx16 := FunD.bindsN (ps := ["circle", "value"]) Dx16 fun _ _ _ _ _ _ us hl => match us, hl with | [_, _], _ => rfl
  have Fx16 : Fun K "is_lot" "is_lot" sIsLot (He.fAd K dx16.at_) fdx16 := fun_of Dx16
  have mx16 : mg "is_lot" = some (.ref (He.fAd K dx16.at_)) := He.glo_ok X G (cD.fact 15 (f := .glo "is_lot") rfl)
  obtain ⟨fdx17, Dx17⟩ := cD.def_ 17 (d := dx17) rfl
  have bx17 := FunD.bindsN (ps := ["circle", "some"]) Dx17 fun _ _ _ _ _ _ us hl => match us, hl with | [_, _], _ => rfl
  have Fx17 : Fun K "least_of" "least_of" sLeast (He.fAd K dx17.at_) fdx17 := fun_of Dx17
  have mx17 : mg "least_of" = some (.ref (He.fAd K dx17.at_)) := He.glo_ok X G (cD.fact 16 (f := .glo "least_of") rfl)
  obtain ⟨fdx18, Dx18⟩ := cD.def_ 18 (d := dx18) rfl
  have bx18 := FunD.bindsN (ps := ["circle"]) Dx18 fun _ _ _ _ _ _ us hl => match us, hl with | [_], _ => rfl
  have Fx18 : Fun K "lots" "lots" sLots (He.fAd K dx18.at_) fdx18 := fun_of Dx18
  have mx18 : mg "lots" = some (.ref (He.fAd K dx18.at_)) := He.glo_ok X G (cD.fact 17 (f := .glo "lots") rfl)
  obtain ⟨fdx19, Dx19⟩ := cD.def_ 19 (d := dx19) rfl
  have bx19 := FunD.bindsN (ps := ["self"]) Dx19 fun _ _ _ _ _ _ us hl => match us, hl with | [_], _ => rfl
  have Fx19 : Fun K "__len__" "Circle.__len__" sCircLen (He.fAd K dx19.at_) fdx19 := fun_of Dx19
  obtain ⟨fdx20, Dx20⟩ := cD.def_ 20 (d := dx20) rfl
  have bx20 := FunD.bindsN (ps := ["some", "lot"]) Dx20 fun _ _ _ _ _ _ us hl => match us, hl with | [_, _], _ => rfl
  have Fx20 : Fun K "has_one" "has_one" sHasOne (He.fAd K dx20.at_) fdx20 := fun_of Dx20
  have mx20 : mg "has_one" = some (.ref (He.fAd K dx20.at_)) := He.glo_ok X G (cD.fact 18 (f := .glo "has_one") rfl)
  obtain ⟨fdx21, Dx21⟩ := cD.def_ 21 (d := dx21) rfl
  have bx21 := FunD.bindsN (ps := ["some", "lot"]) Dx21 fun _ _ _ _ _ _ us hl => match us, hl with | [_, _], _ => rfl
  have Fx21 : Fun K "first_within" "first_within" sFirst (He.fAd K dx21.at_) fdx21 := fun_of Dx21
  have mx21 : mg "first_within" = some (.ref (He.fAd K dx21.at_)) := He.glo_ok X G (cD.fact 19 (f := .glo "first_within") rfl)
  obtain ⟨fdx22, Dx22⟩ := cD.def_ 22 (d := dx22) rfl
  have bx22 := FunD.bindsN (ps := ["lot", "other"]) Dx22 fun _ _ _ _ _ _ us hl => match us, hl with | [_, _], _ => rfl
  have Fx22 : Fun K "is_within" "is_within" sWithin (He.fAd K dx22.at_) fdx22 := fun_of Dx22
  have mx22 : mg "is_within" = some (.ref (He.fAd K dx22.at_)) := He.glo_ok X G (cD.fact 20 (f := .glo "is_within") rfl)
  obtain ⟨fdx23, Dx23⟩ := cD.def_ 23 (d := dx23) rfl
  have bx23 := FunD.bindsN (ps := ["names", "family"]) Dx23 fun _ _ _ _ _ _ us hl => match us, hl with | [_, _], _ => rfl
  have Fx23 : Fun K "_law_members" "_law_members" sLMemb (He.fAd K dx23.at_) fdx23 := fun_of Dx23
  have mx23 : mg "_law_members" = some (.ref (He.fAd K dx23.at_)) := He.glo_ok X G (cD.fact 21 (f := .glo "_law_members") rfl)
  obtain ⟨fdx24, Dx24⟩ := cD.def_ 24 (d := dx24) rfl
  have bx24 := FunD.bindsN (ps := ["family", "lot"]) Dx24 fun _ _ _ _ _ _ us hl => match us, hl with | [_, _], _ => rfl
  have Fx24 : Fun K "_law_has_one" "_law_has_one" sLHasOne (He.fAd K dx24.at_) fdx24 := fun_of Dx24
  have mx24 : mg "_law_has_one" = some (.ref (He.fAd K dx24.at_)) := He.glo_ok X G (cD.fact 22 (f := .glo "_law_has_one") rfl)
  obtain ⟨fdx25, Dx25⟩ := cD.def_ 25 (d := dx25) rfl
  have bx25 := FunD.bindsN (ps := ["circle", "one", "other"]) Dx25 fun _ _ _ _ _ _ us hl => match us, hl with | [_, _, _], _ => rfl
  have Fx25 : Fun K "joined" "joined" sJoined (He.fAd K dx25.at_) fdx25 := fun_of Dx25
  have mx25 : mg "joined" = some (.ref (He.fAd K dx25.at_)) := He.glo_ok X G (cD.fact 23 (f := .glo "joined") rfl)
  obtain ⟨fdx26, Dx26⟩ := cD.def_ 26 (d := dx26) rfl
  have bx26 := FunD.bindsN (ps := ["circle", "value"]) Dx26 fun _ _ _ _ _ _ us hl => match us, hl with | [_, _], _ => rfl
  have Fx26 : Fun K "refuse_family" "refuse_family" sRefFam (He.fAd K dx26.at_) fdx26 := fun_of Dx26
  have mx26 : mg "refuse_family" = some (.ref (He.fAd K dx26.at_)) := He.glo_ok X G (cD.fact 24 (f := .glo "refuse_family") rfl)
  obtain ⟨fdx27, Dx27⟩ := cD.def_ 27 (d := dx27) rfl
  have bx27 := FunD.bindsN (ps := ["circle", "value"]) Dx27 fun _ _ _ _ _ _ us hl => match us, hl with | [_, _], _ => rfl
  have Fx27 : Fun K "is_family" "is_family" sIsFam (He.fAd K dx27.at_) fdx27 := fun_of Dx27
  have mx27 : mg "is_family" = some (.ref (He.fAd K dx27.at_)) := He.glo_ok X G (cD.fact 25 (f := .glo "is_family") rfl)
  obtain ⟨fdx28, Dx28⟩ := cD.def_ 28 (d := dx28) rfl
  have bx28 := FunD.bindsN (ps := ["circle", "one", "other"]) Dx28 fun _ _ _ _ _ _ us hl => match us, hl with | [_, _, _], _ => rfl
  have Fx28 : Fun K "shared" "shared" sShared (He.fAd K dx28.at_) fdx28 := fun_of Dx28
  have mx28 : mg "shared" = some (.ref (He.fAd K dx28.at_)) := He.glo_ok X G (cD.fact 26 (f := .glo "shared") rfl)
  obtain ⟨fdx29, Dx29⟩ := cD.def_ 29 (d := dx29) rfl
  have bx29 := FunD.bindsN (ps := ["circle", "one", "other"]) Dx29 fun _ _ _ _ _ _ us hl => match us, hl with | [_, _, _], _ => rfl
  have Fx29 : Fun K "least_with_both" "least_with_both" sBoth (He.fAd K dx29.at_) fdx29 := fun_of Dx29
  have mx29 : mg "least_with_both" = some (.ref (He.fAd K dx29.at_)) := He.glo_ok X G (cD.fact 27 (f := .glo "least_with_both") rfl)
  obtain ⟨fdx30, Dx30⟩ := cD.def_ 30 (d := dx30) rfl
  have bx30 := FunD.bindsN (ps := ["self", "some"]) Dx30 fun _ _ _ _ _ _ us hl => match us, hl with | [_, _], _ => rfl
  have Fx30 : Fun K "lot" "Circle.lot" sCircLot (He.fAd K dx30.at_) fdx30 := fun_of Dx30
  obtain ⟨fdx31, Dx31⟩ := cD.def_ 31 (d := dx31) rfl
  have bx31 := FunD.bindsN (ps := ["circle", "family"]) Dx31 fun _ _ _ _ _ _ us hl => match us, hl with | [_, _], _ => rfl
  have Fx31 : Fun K "many" "many" sMany (He.fAd K dx31.at_) fdx31 := fun_of Dx31
  have mx31 : mg "many" = some (.ref (He.fAd K dx31.at_)) := He.glo_ok X G (cD.fact 28 (f := .glo "many") rfl)
  obtain ⟨fdx32, Dx32⟩ := cD.def_ 32 (d := dx32) rfl
  have bx32 := FunD.bindsN (ps := ["names", "ring", "one", "far"]) Dx32 fun _ _ _ _ _ _ us hl => match us, hl with | [_, _, _, _], _ => rfl
  have Fx32 : Fun K "_law_is_within_right" "_law_is_within_right" sLWthR (He.fAd K dx32.at_) fdx32 := fun_of Dx32
  have mx32 : mg "_law_is_within_right" = some (.ref (He.fAd K dx32.at_)) := He.glo_ok X G (cD.fact 29 (f := .glo "_law_is_within_right") rfl)
  obtain ⟨fdx33, Dx33⟩ := cD.def_ 33 (d := dx33) rfl
  have bx33 := FunD.bindsN (ps := ["circle", "one", "other"]) Dx33 fun _ _ _ _ _ _ us hl => match us, hl with | [_, _, _], _ => rfl
  have Fx33 : Fun K "within" "within" sWithinF (He.fAd K dx33.at_) fdx33 := fun_of Dx33
  have mx33 : mg "within" = some (.ref (He.fAd K dx33.at_)) := He.glo_ok X G (cD.fact 30 (f := .glo "within") rfl)
  obtain ⟨fdx34, Dx34⟩ := cD.def_ 34 (d := dx34) rfl
  have bx34 := FunD.bindsN (ps := ["circle", "one", "other", "value"]) Dx34 fun _ _ _ _ _ _ us hl => match us, hl with | [_, _, _, _], _ => rfl
  have Fx34 : Fun K "shows_within" "shows_within" sShowsW (He.fAd K dx34.at_) fdx34 := fun_of Dx34
  have mx34 : mg "shows_within" = some (.ref (He.fAd K dx34.at_)) := He.glo_ok X G (cD.fact 31 (f := .glo "shows_within") rfl)
  obtain ⟨fdx35, Dx35⟩ := cD.def_ 35 (d := dx35) rfl
  have bx35 := FunD.bindsN (ps := ["value", "word", "many"]) Dx35 fun _ _ _ _ _ _ us hl => match us, hl with | [_, _, _], _ => rfl
  have Fx35 : Fun K "is_told" "is_told" sIsTold (He.fAd K dx35.at_) fdx35 := fun_of Dx35
  have mx35 : mg "is_told" = some (.ref (He.fAd K dx35.at_)) := He.glo_ok X G (cD.fact 32 (f := .glo "is_told") rfl)
  obtain ⟨fdx36, Dx36⟩ := cD.def_ 36 (d := dx36) rfl
  have bx36 := FunD.bindsN (ps := ["value", "many"]) Dx36 fun _ _ _ _ _ _ us hl => match us, hl with | [_, _], _ => rfl
  have Fx36 : Fun K "is_row" "is_row" sIsRow (He.fAd K dx36.at_) fdx36 := fun_of Dx36
  have mx36 : mg "is_row" = some (.ref (He.fAd K dx36.at_)) := He.glo_ok X G (cD.fact 33 (f := .glo "is_row") rfl)
  obtain ⟨fdx37, Dx37⟩ := cD.def_ 37 (d := dx37) rfl
  have bx37 := FunD.bindsN (ps := ["some", "lot", "value"]) Dx37 fun _ _ _ _ _ _ us hl => match us, hl with | [_, _, _], _ => rfl
  have Fx37 : Fun K "is_number_within" "is_number_within" sInN (He.fAd K dx37.at_) fdx37 := fun_of Dx37
  have mx37 : mg "is_number_within" = some (.ref (He.fAd K dx37.at_)) := He.glo_ok X G (cD.fact 34 (f := .glo "is_number_within") rfl)
  obtain ⟨fdx38, Dx38⟩ := cD.def_ 38 (d := dx38) rfl
  have bx38 := FunD.bindsN (ps := ["value", "some"]) Dx38 fun _ _ _ _ _ _ us hl => match us, hl with | [_, _], _ => rfl
  have Fx38 : Fun K "is_number_of" "is_number_of" sNumOf (He.fAd K dx38.at_) fdx38 := fun_of Dx38
  have mx38 : mg "is_number_of" = some (.ref (He.fAd K dx38.at_)) := He.glo_ok X G (cD.fact 35 (f := .glo "is_number_of") rfl)
  obtain ⟨fdx39, Dx39⟩ := cD.def_ 39 (d := dx39) rfl
  have bx39 := FunD.bindsN (ps := ["value", "low", "high"]) Dx39 fun _ _ _ _ _ _ us hl => match us, hl with | [_, _, _], _ => rfl
  have Fx39 : Fun K "is_from_to" "is_from_to" sFromTo (He.fAd K dx39.at_) fdx39 := fun_of Dx39
  have mx39 : mg "is_from_to" = some (.ref (He.fAd K dx39.at_)) := He.glo_ok X G (cD.fact 36 (f := .glo "is_from_to") rfl)
  obtain ⟨fdx40, Dx40⟩ := cD.def_ 40 (d := dx40) rfl
  have bx40 := FunD.bindsN (ps := ["value"]) Dx40 fun _ _ _ _ _ _ us hl => match us, hl with | [_], _ => rfl
  have Fx40 : Fun K "is_integer" "is_integer" sIsInt (He.fAd K dx40.at_) fdx40 := fun_of Dx40
  have mx40 : mg "is_integer" = some (.ref (He.fAd K dx40.at_)) := He.glo_ok X G (cD.fact 37 (f := .glo "is_integer") rfl)
  obtain ⟨fdx41, Dx41⟩ := cD.def_ 41 (d := dx41) rfl
  have bx41 := FunD.bindsN (ps := ["value", "upto"]) Dx41 fun _ _ _ _ _ _ us hl => match us, hl with | [_, _], _ => rfl
  have Fx41 : Fun K "_law_is_number" "_law_is_number" sLNum (He.fAd K dx41.at_) fdx41 := fun_of Dx41
  have mx41 : mg "_law_is_number" = some (.ref (He.fAd K dx41.at_)) := He.glo_ok X G (cD.fact 38 (f := .glo "_law_is_number") rfl)
  obtain ⟨fdx42, Dx42⟩ := cD.def_ 42 (d := dx42) rfl
  have bx42 := FunD.bindsN (ps := ["names", "value"]) Dx42 fun _ _ _ _ _ _ us hl => match us, hl with | [_, _], _ => rfl
  have Fx42 : Fun K "_law_is_lot" "_law_is_lot" sLIsLot (He.fAd K dx42.at_) fdx42 := fun_of Dx42
  have mx42 : mg "_law_is_lot" = some (.ref (He.fAd K dx42.at_)) := He.glo_ok X G (cD.fact 39 (f := .glo "_law_is_lot") rfl)
  obtain ⟨fdx43, Dx43⟩ := cD.def_ 43 (d := dx43) rfl
  have bx43 := FunD.bindsN (ps := ["ring", "family", "lot"]) Dx43 fun _ _ _ _ _ _ us hl => match us, hl with | [_, _, _], _ => rfl
  have Fx43 : Fun K "_law_is_has_right" "_law_is_has_right" sLHasR (He.fAd K dx43.at_) fdx43 := fun_of Dx43
  have mx43 : mg "_law_is_has_right" = some (.ref (He.fAd K dx43.at_)) := He.glo_ok X G (cD.fact 40 (f := .glo "_law_is_has_right") rfl)
  obtain ⟨fdx44, Dx44⟩ := cD.def_ 44 (d := dx44) rfl
  have bx44 := FunD.bindsN (ps := ["circle", "family", "lot"]) Dx44 fun _ _ _ _ _ _ us hl => match us, hl with | [_, _, _], _ => rfl
  have Fx44 : Fun K "has" "has" sHas (He.fAd K dx44.at_) fdx44 := fun_of Dx44
  have mx44 : mg "has" = some (.ref (He.fAd K dx44.at_)) := He.glo_ok X G (cD.fact 41 (f := .glo "has") rfl)
  obtain ⟨fdx45, Dx45⟩ := cD.def_ 45 (d := dx45) rfl
  have bx45 := FunD.bindsN (ps := ["circle", "value"]) Dx45 fun _ _ _ _ _ _ us hl => match us, hl with | [_, _], _ => rfl
  have Fx45 : Fun K "refuse_lot" "refuse_lot" sRefLot (He.fAd K dx45.at_) fdx45 := fun_of Dx45
  have mx45 : mg "refuse_lot" = some (.ref (He.fAd K dx45.at_)) := He.glo_ok X G (cD.fact 42 (f := .glo "refuse_lot") rfl)
  obtain ⟨fdx46, Dx46⟩ := cD.def_ 46 (d := dx46) rfl
  have bx46 := FunD.bindsN (ps := ["circle", "family", "lot", "value"]) Dx46 fun _ _ _ _ _ _ us hl => match us, hl with | [_, _, _, _], _ => rfl
  have Fx46 : Fun K "shows_has" "shows_has" sShowsHas (He.fAd K dx46.at_) fdx46 := fun_of Dx46
  have mx46 : mg "shows_has" = some (.ref (He.fAd K dx46.at_)) := He.glo_ok X G (cD.fact 43 (f := .glo "shows_has") rfl)
  obtain ⟨fdx47, Dx47⟩ := cD.def_ 47 (d := dx47) rfl
  have bx47 := FunD.bindsN (ps := ["script", "limit"]) Dx47 fun _ _ _ _ _ _ us hl => match us, hl with | [_, _], _ => rfl
  have Fx47 : Fun K "_law_cells" "_law_cells" sCells (He.fAd K dx47.at_) fdx47 := fun_of Dx47
  have mx47 : mg "_law_cells" = some (.ref (He.fAd K dx47.at_)) := He.glo_ok X G (cD.fact 44 (f := .glo "_law_cells") rfl)
  obtain ⟨fdx48, Dx48⟩ := cD.def_ 48 (d := dx48) rfl
  have bx48 := FunD.bindsN (ps := ["script", "place"]) Dx48 fun _ _ _ _ _ _ us hl => match us, hl with | [_, _], _ => rfl
  have Fx48 : Fun K "_law_pot" "_law_pot" sPot (He.fAd K dx48.at_) fdx48 := fun_of Dx48
  have mx48 : mg "_law_pot" = some (.ref (He.fAd K dx48.at_)) := He.glo_ok X G (cD.fact 45 (f := .glo "_law_pot") rfl)
  have mCi : mg "Circle" = some (.ref (gC K)) := He.glo_ok X G (cD.fact 46 (f := .glo "Circle") rfl)
  have T : Bl mg := ⟨He.free_ok X G (cD.fact 47 (f := .free "int") rfl), He.free_ok X G (cD.fact 48 (f := .free "abs") rfl), He.free_ok X G (cD.fact 49 (f := .free "len") rfl), He.free_ok X G (cD.fact 50 (f := .free "list") rfl), He.free_ok X G (cD.fact 51 (f := .free "range") rfl), He.free_ok X G (cD.fact 52 (f := .free "max") rfl), He.free_ok X G (cD.fact 53 (f := .free "min") rfl), He.free_ok X G (cD.fact 54 (f := .free "all") rfl), He.free_ok X G (cD.fact 55 (f := .free "any") rfl), He.free_ok X G (cD.fact 56 (f := .free "repr") rfl), He.free_ok X G (cD.fact 57 (f := .free "isinstance") rfl), He.free_ok X G (cD.fact 58 (f := .free "enumerate") rfl), He.free_ok X G (cD.fact 59 (f := .free "ValueError") rfl)⟩
  have Cc : Cn mg := ⟨He.free_ok X G (cD.fact 60 (f := .free "str") rfl), He.free_ok X G (cD.fact 61 (f := .free "tuple") rfl), He.free_ok X G (cD.fact 62 (f := .free "set") rfl), He.free_ok X G (cD.fact 63 (f := .free "sum") rfl), He.free_ok X G (cD.fact 64 (f := .free "sorted") rfl), He.free_ok X G (cD.fact 65 (f := .free "zip") rfl), He.free_ok X G (cD.fact 66 (f := .free "dict") rfl), He.str_ok X G (cD.fact 68 (f := .str "LETTERS" "abcdefghijklmnopqrstuvwxyz") rfl)⟩
  have hB : mg "bool" = none := He.free_ok X G (cD.fact 67 (f := .free "bool") rfl)
  have clC : Cls K (gC K) := He.cls_ok (cD.fact 69 (f := .cls "Circle") rfl)
  have CC : CircC K (gC K) (He.fAd K dx2.at_) := ⟨clC, He.noat_ok (cD.fact 70 (f := .noat "Circle" "names") rfl), He.mkr_ok (cD.fact 71 (f := .mkr "Circle") rfl)⟩
  obtain ⟨plen, rlen, _⟩ := ba3 (cD.fact 72 (f := .meth "Circle" "__len__") rfl)
  have Mlen : MethC K (gC K) "__len__" (He.fAd K dx19.at_) := ⟨He.eqO_ok plen, rlen⟩
  obtain ⟨plot, rlot, _⟩ := ba3 (cD.fact 73 (f := .meth "Circle" "lot") rfl)
  have Mlot : MethC K (gC K) "lot" (He.fAd K dx30.at_) := ⟨He.eqO_ok plot, rlot⟩
  have e := hfa.symm.trans mx0
  cases e
  have b := FunD.bindsA (ps := ["script"]) Dx0 fun _ _ _ _ _ _ us hl => match us, hl with | [_], _ => rfl
  refine ⟨fdx0, fun s v => b s [v] rfl, fun base _ _ => ?_⟩
  have Gnames := ok_names (P := P) (w := w) (K := K) (mg := mg) (base := base) Fx3 T Cc.tuple Fx4 bx4 mx4 Fx5 bx5 mx5
  have GcircI := ok_circI (P := P) (w := w) (K := K) (mg := mg) (base := base) (C := gC K) Fx2 T Cc CC Fx6 bx6 mx6 Fx7 bx7 mx7
  have Gof := ok_of (P := P) (w := w) (K := K) (mg := mg) (base := base) Fx9 T Fx4 bx4 mx4
  have Gtake := ok_take (P := P) (w := w) (K := K) (mg := mg) (base := base) Fx4 T
  have Gsome := ok_some (P := P) (w := w) (K := K) (mg := mg) (base := base) Fx5 T Fx4 bx4 mx4
  have GlotOf := ok_lotOf (P := P) (w := w) (K := K) (mg := mg) (base := base) Fx10 Cc.tuple
  have GallLots := ok_allLots (P := P) (w := w) (K := K) (mg := mg) (base := base) Fx12 T Cc
  have Ginside := ok_inside (P := P) (w := w) (K := K) (mg := mg) (base := base) Fx13 T
  have GleastLG := ok_leastLG (P := P) (w := w) (K := K) (mg := mg) (base := base) Fx11 T Cc GallLots ⟨Fx12.kp, bx12, mx12⟩ Ginside ⟨Fx13.kp, bx13, mx13⟩
  have GlFam := ok_lFam (P := P) (w := w) (K := K) (mg := mg) (base := base) Fx8 T Gof ⟨Fx9.kp, bx9, mx9⟩ Gtake ⟨Fx4.kp, bx4, mx4⟩ Gsome ⟨Fx5.kp, bx5, mx5⟩ GlotOf ⟨Fx10.kp, bx10, mx10⟩ GleastLG ⟨Fx11.kp, bx11, mx11⟩
  have GisLot := ok_isLot (P := P) (w := w) (K := K) (mg := mg) (base := base) (C := gC K) Fx16 T Cc CC
  have GareLots := ok_areLots (P := P) (w := w) (K := K) (mg := mg) (base := base) (C := gC K) Fx15 T Cc GisLot ⟨Fx16.kp, bx16, mx16⟩
  have Glots := ok_lots (P := P) (w := w) (K := K) (mg := mg) (base := base) (C := gC K) Fx18 T Cc CC Mlen Fx19 bx19
  have Gwithin := ok_within (P := P) (w := w) (K := K) (mg := mg) (base := base) Fx22 T
  have Gfirst := ok_first (P := P) (w := w) (K := K) (mg := mg) (base := base) Fx21 T Gwithin ⟨Fx22.kp, bx22, mx22⟩
  have GhasOne := ok_hasOne (P := P) (w := w) (K := K) (mg := mg) (base := base) Fx20 Gfirst ⟨Fx21.kp, bx21, mx21⟩
  have GleastT := ok_leastT (P := P) (w := w) (K := K) (mg := mg) (base := base) (C := gC K) Fx17 T Cc Glots ⟨Fx18.kp, bx18, mx18⟩ GhasOne ⟨Fx20.kp, bx20, mx20⟩
  have GleastP := ok_leastP (P := P) (w := w) (K := K) (mg := mg) (base := base) (C := gC K) Fx14 GareLots ⟨Fx15.kp, bx15, mx15⟩ GleastT ⟨Fx17.kp, bx17, mx17⟩
  have GlHasOne := ok_lHasOne (P := P) (w := w) (K := K) (mg := mg) (base := base) Fx24 T Ginside ⟨Fx13.kp, bx13, mx13⟩
  have GlMemb := ok_lMemb (P := P) (w := w) (K := K) (mg := mg) (base := base) Fx23 GallLots ⟨Fx12.kp, bx12, mx12⟩ GlHasOne ⟨Fx24.kp, bx24, mx24⟩
  have GisFam := ok_isFam (P := P) (w := w) (K := K) (mg := mg) (base := base) (C := gC K) Fx27 GareLots ⟨Fx15.kp, bx15, mx15⟩ GleastT ⟨Fx17.kp, bx17, mx17⟩
  have GrefFam := ok_refFam (P := P) (w := w) (K := K) (mg := mg) (base := base) (C := gC K) Fx26 GisFam ⟨Fx27.kp, bx27, mx27⟩
  have Gjoined := ok_joined (P := P) (w := w) (K := K) (mg := mg) (base := base) (C := gC K) Fx25 GrefFam ⟨Fx26.kp, bx26, mx26⟩ GleastT ⟨Fx17.kp, bx17, mx17⟩
  have GcircLot := ok_circLot (P := P) (w := w) (K := K) (mg := mg) (base := base) (C := gC K) Fx30 T Cc CC
  have GleastG := ok_leastG (P := P) (w := w) (K := K) (mg := mg) (base := base) (C := gC K) Fx17 T Cc Glots ⟨Fx18.kp, bx18, mx18⟩ GhasOne ⟨Fx20.kp, bx20, mx20⟩
  have Gboth := ok_both (P := P) (w := w) (K := K) (mg := mg) (base := base) (C := gC K) Fx29 CC Mlot GcircLot Fx30.kp bx30 GleastG ⟨Fx17.kp, bx17, mx17⟩
  have Gshared := ok_shared (P := P) (w := w) (K := K) (mg := mg) (base := base) (C := gC K) Fx28 GrefFam ⟨Fx26.kp, bx26, mx26⟩ Gboth ⟨Fx29.kp, bx29, mx29⟩
  have GcircLen := ok_circLen (P := P) (w := w) (K := K) (mg := mg) (base := base) (C := gC K) Fx19 T CC
  have GfirstT := ok_firstT (P := P) (w := w) (K := K) (mg := mg) (base := base) Fx21 T Gwithin ⟨Fx22.kp, bx22, mx22⟩
  have GhasOneT := ok_hasOneT (P := P) (w := w) (K := K) (mg := mg) (base := base) Fx20 GfirstT ⟨Fx21.kp, bx21, mx21⟩
  have Gmany := ok_many (P := P) (w := w) (K := K) (mg := mg) (base := base) (C := gC K) Fx31 T Cc CC Mlen GcircLen bx19 GrefFam ⟨Fx26.kp, bx26, mx26⟩ Glots ⟨Fx18.kp, bx18, mx18⟩ GhasOneT ⟨Fx20.kp, bx20, mx20⟩
  have GwithinF := ok_withinF (P := P) (w := w) (K := K) (mg := mg) (base := base) (C := gC K) Fx33 T Cc GrefFam ⟨Fx26.kp, bx26, mx26⟩ GfirstT ⟨Fx21.kp, bx21, mx21⟩
  have GisTold := ok_isTold (P := P) (w := w) (K := K) (mg := mg) (base := base) Fx35 T Cc Fx36 bx36 mx36
  have GisInt := ok_isInt (P := P) (w := w) (K := K) (mg := mg) (base := base) Fx40 T hB
  have GfromTo := ok_fromTo (P := P) (w := w) (K := K) (mg := mg) (base := base) Fx39 T GisInt ⟨Fx40.kp, bx40, mx40⟩
  have GnumOf := ok_numOf (P := P) (w := w) (K := K) (mg := mg) (base := base) Fx38 T GfromTo ⟨Fx39.kp, bx39, mx39⟩
  have GinN := ok_inN (P := P) (w := w) (K := K) (mg := mg) (base := base) Fx37 GnumOf ⟨Fx38.kp, bx38, mx38⟩ Gwithin ⟨Fx22.kp, bx22, mx22⟩
  have GisRow := ok_isRow (P := P) (w := w) (K := K) (mg := mg) (base := base) Fx36 T Cc
  have GshowsW := ok_showsW (P := P) (w := w) (K := K) (mg := mg) (base := base) (C := gC K) Fx34 T Cc GrefFam ⟨Fx26.kp, bx26, mx26⟩ GisLot ⟨Fx16.kp, bx16, mx16⟩ GisTold ⟨Fx35.kp, bx35, mx35⟩ GinN ⟨Fx37.kp, bx37, mx37⟩ GisRow ⟨Fx36.kp, bx36, mx36⟩ GhasOneT ⟨Fx20.kp, bx20, mx20⟩
  have GlNum := ok_lNum (P := P) (w := w) (K := K) (mg := mg) (base := base) Fx41 T hB
  have GlIsLot := ok_lIsLot (P := P) (w := w) (K := K) (mg := mg) (base := base) Fx42 T Cc GlotOf ⟨Fx10.kp, bx10, mx10⟩
  have GlWthR := ok_lWthR (P := P) (w := w) (K := K) (mg := mg) (base := base) (C := gC K) Fx32 T Cc GwithinF ⟨Fx33.kp, bx33, mx33⟩ GshowsW ⟨Fx34.kp, bx34, mx34⟩ GlHasOne ⟨Fx24.kp, bx24, mx24⟩ GlNum ⟨Fx41.kp, bx41, mx41⟩ Ginside ⟨Fx13.kp, bx13, mx13⟩ GlIsLot ⟨Fx42.kp, bx42, mx42⟩
  have GrefLot := ok_refLot (P := P) (w := w) (K := K) (mg := mg) (base := base) (C := gC K) Fx45 T Cc CC Fx16 bx16 mx16
  have Ghas := ok_has (P := P) (w := w) (K := K) (mg := mg) (base := base) (C := gC K) Fx44 T Cc GrefFam ⟨Fx26.kp, bx26, mx26⟩ GrefLot ⟨Fx45.kp, bx45, mx45⟩ GfirstT ⟨Fx21.kp, bx21, mx21⟩
  have GshowsHas := ok_showsHas (P := P) (w := w) (K := K) (mg := mg) (base := base) (C := gC K) Fx46 T Cc GrefFam ⟨Fx26.kp, bx26, mx26⟩ GrefLot ⟨Fx45.kp, bx45, mx45⟩ GisTold ⟨Fx35.kp, bx35, mx35⟩ GinN ⟨Fx37.kp, bx37, mx37⟩ GisRow ⟨Fx36.kp, bx36, mx36⟩
  have GlHasR := ok_lHasR (P := P) (w := w) (K := K) (mg := mg) (base := base) (C := gC K) Fx43 T Cc Ghas ⟨Fx44.kp, bx44, mx44⟩ GshowsHas ⟨Fx46.kp, bx46, mx46⟩ GlHasOne ⟨Fx24.kp, bx24, mx24⟩ GlNum ⟨Fx41.kp, bx41, mx41⟩ Ginside ⟨Fx13.kp, bx13, mx13⟩
  have Gright := ok_right (P := P) (w := w) (K := K) (mg := mg) (base := base) (C := gC K) (fC := 0) Fx1 T Cc CC mCi Gnames ⟨Fx3.kp, bx3, mx3⟩ GcircI bx2 GlFam ⟨Fx8.kp, bx8, mx8⟩ Gtake ⟨Fx4.kp, bx4, mx4⟩ GallLots ⟨Fx12.kp, bx12, mx12⟩ Gsome ⟨Fx5.kp, bx5, mx5⟩ GleastP ⟨Fx14.kp, bx14, mx14⟩ GleastLG ⟨Fx11.kp, bx11, mx11⟩ GlMemb ⟨Fx23.kp, bx23, mx23⟩ Gjoined ⟨Fx25.kp, bx25, mx25⟩ Gshared ⟨Fx28.kp, bx28, mx28⟩ Gmany ⟨Fx31.kp, bx31, mx31⟩ GlWthR ⟨Fx32.kp, bx32, mx32⟩ GlHasR ⟨Fx43.kp, bx43, mx43⟩
  exact ok_law (P := P) (w := w) (K := K) (mg := mg) (base := base) Fx0 T Gright Fx1.kp bx1 mx1 Fx47 bx47 mx47 Fx48 bx48 mx48
theorem walkY {l : PySem.W.OpenLaw} {n lev : Nat} {q : Program} {loose : List Str} {XP : (Str → Option Value) → Heap → Prop} {YP : World → Heap → Prop} {d : DefRec} {sp : PySem.W.Frag → Sp} {x : Str}
    (hn : l.most = some n) (hn2 : n ≤ sizeLine) (hdf : d.params.defaults = []) (room : Room lev callerA)
    (F : ∀ (w : World) (mg : Str → Option Value) (fa : Addr) (h : Heap), YP w h → h.Ns mainGlobals mg → mg d.name = some (.ref fa) →
      ∃ (K : PySem.W.Frag) (fD : FuncData), K.In h ∧ (∀ (s : Shared) (u : Value), BindsTo s fD ⟨[u], []⟩ [(x, u)]) ∧
        ∀ base : Heap, K.In base → base.Ns mainGlobals mg → FnG l.prog w K mg base lev fa fD [x] (sp K))
    (hsp : ∀ (K : PySem.W.Frag) (H : Hp) (a : Addr) (ns : List Int), ns.length ≤ n → Only H → SqL K H a (ns.map V.int) → sp K [.ref a] H (fun v _ => v = .bl true) E0) :
    PySem.W.WalkO q loose XP YP l.row.toRowW d [] (fun f vs => PySem.call f vs) := by
  refine Att.attach_call hn hdf ?_
  intro w s₀ s₁ mg mb fa o pm cd doc a vs ns G Y ho hd hcd hmg hobj hints hlen hg
  obtain ⟨K, fD, KX, hb, hF⟩ := F w mg fa _ Y G.T.g hmg
  exact gcall KX G.T.g G.T.b G.T.builtins G.T.nolimit hg hobj hints (Nat.le_trans hlen hn2) room hF hb fun H hO hS => hsp _ H a ns hlen hO hS
end K6
set_option Elab.async false
set_option linter.all false
set_option maxRecDepth 100000
set_option maxHeartbeats 0
open PySem PySem.W PySem.Calls PyProof.Rows in
theorem PySem.Challenge.cw_lotkeepers_k02_whole_families_of_lots_holds : PySem.Challenge.rw_lotkeepers_k02_whole_families_of_lots.Holds := by
  w_on; o_law
  refine HandSHeadRun.head_any (r := OpenLaw.row PySem.Challenge.rw_lotkeepers_k02_whole_families_of_lots) (q := view (OpenLaw.row PySem.Challenge.rw_lotkeepers_k02_whole_families_of_lots).prog [58]) (H := K6.hk) (ob := K6.ob) (M := 13200) (loose := K6.others) (d := HandSHeadRun.topDef (OpenLaw.row PySem.Challenge.rw_lotkeepers_k02_whole_families_of_lots).prog 58) (kwd := []) K6.ob_eq
    (by kernel_rfl) (fun s => by kernel_rfl) K6.run (by kernel_rfl) (by kernel_rfl) (by kernel_rfl) (by rfl) (by first | assumption | decide +kernel) (by decide +kernel) ⟨rfl, rfl, rfl, rfl, rfl, by decide +kernel⟩ ?hw ?hc
  case hw => w_witness2
  case hc =>
    refine K6.walkY (l := PySem.Challenge.rw_lotkeepers_k02_whole_families_of_lots) (n := 63) (lev := 10) (x := "script") (sp := K6.spLaw) rfl (by decide) (by kernel_rfl) ⟨rfl, by decide, by decide⟩ ?F fun K H a ns hl _ hS => ⟨a, ns, rfl, hS, hl, fun _ => rfl⟩
    intro w mg fa h Y G hmg0
    obtain ⟨K, KX, c⟩ := Y
    have hmg : mg ("law" : PySem.Str) = some (.ref fa) := by
      have e : (HandSHeadRun.topDef (OpenLaw.row PySem.Challenge.rw_lotkeepers_k02_whole_families_of_lots).prog 58).name = ("law" : PySem.Str) := by kernel_rfl
      rw [← e]
      exact hmg0
    obtain ⟨fd, hb, hF⟩ := K6.facts (P := (PySem.Challenge.rw_lotkeepers_k02_whole_families_of_lots).prog) (w := w) KX G hmg c
    exact ⟨K, fd, KX, hb, hF⟩
