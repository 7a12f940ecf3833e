import PyProof.Rows.All
import Wide.All
import OpenK.AllK
import Wide.FinOn
import HandS.ForMost
import HandS.StrMore
import HandS.Wide
import HandS.IsInst
import HandS.Codes
import HandS.Conv
import HandS.Style
import HandS.Ends
import KE.GoesNew
import HandS.ForDict
import HandS.TupAny
import HandS.TupMul
import PyProof.NeKinds
import HandS.Words
import KE.GoesZip
import HandS.Zip
import HandS.Walk
import HandS.Dict
import PyProof.Rows.RegReprOcc
import PyProof.Rows.StrStrike
import PyProof.FitsInt
import PyProof.ReprLen
import PyProof.Rows.IntBool
import PyProof.CallStr
import HandS.TupLe
import HandS.More
import PyProof.Rows.EqBoolInt
import HandS.ReplaceLit
import PyProof.ListStr
import HandS.TupLen
import PySem.Challenge.RW_leastmakers_k01_what_is_a_table
set_option Elab.async false
set_option linter.all false
set_option maxRecDepth 100000
set_option maxHeartbeats 8000000
/-! repr of whole data, and promises of defs that call it -/
namespace G1
open PySem PySem.Spec PyProof.Rows L2

/-- a promise of a def where no repr is under way around the call -/
structure FnG (P : Program) (w : World) (K : PySem.W.Frag) (mg : Str → Option Value) (base : Heap) (k : Nat) (f : Addr) (fd : FuncData) (ps : List Str) (sp : Sp) : Prop where
  cnt : ∀ vs H Q E, sp vs H Q E → vs.length = ps.length
  go : ∀ (A : Around) (ou : List Env) (s : Shared) (H : Hp) (ar : Args) (us : List Value) (vs : List V) (Q : VK) (E : XK), A.guards = some [] → Room k A →
    Env0 P w K mg base A ou s H → BindsTo s fd ar (ps.zip us) → Vals vs us → sp vs H Q E →
    codeAny (model P w) A (.call (.ref f) ar) (CR CX0 ou P w H s Q E) s

theorem FnG.of {P : Program} {w : World} {K : PySem.W.Frag} {mg : Str → Option Value} {base : Heap} {k : Nat} {f : Addr} {fd : FuncData} {ps : List Str} {sp : Sp}
    (F : FnOk P w K mg base CX0 k f fd ps sp) : FnG P w K mg base k f fd ps sp :=
  ⟨F.len, fun A ou s H ar us vs Q E _ hr he hb hv hs => F.run A ou s H ar us vs Q E hr he hb hv hs⟩

section
variable {P : Program} {w : World} {K : PySem.W.Frag} {mg : Str → Option Value} {base : Heap}
theorem fnG_of {x qual : Str} {st : Stmt} {f : Addr} {fd : FuncData} {N ps : List Str} {k : Nat} {sp : Sp} (F : Fun K x qual st f fd) (S : FnScope N ps (defScope st))
    (cnt : ∀ vs H Q E, sp vs H Q E → vs.length = ps.length)
    (body : ∀ (cdv : Value) (A : Around) (ou : List Env) (s : Shared) (H : Hp) (vs : List V) (Q : VK) (E : XK), A.guards = some [] →
      Room k (A.deeper (envOfC qual (defScope st) s.heap.objs.size f cdv)) → sp vs H Q E →
      ∃ t, PSs (cxOf CX0 P w K mg base N qual (defScope st) f cdv A ou s H E).nox (defBody st) t ∧
        t { nx := fun _ H' => Q .non H', rt := Q } (start N vs) H) :
    FnG P w K mg base (k + 1) f fd ps sp := by
  obtain ⟨oc, od, kV, doc, pm, an, cdv, ct, osl, rfl, lk, hcd⟩ := F.ex
  refine ⟨cnt, fun A ou s H ar us vs Q E hgd hr e0 hb rv hsp => ?_⟩
  have inK : K.In s.heap := e0.mod.kin.keeps fun b o e => (e0.bs b o e).1
  have hlim : s.heap.NoLimit := e0.mod.nolimit.keeps fun b o e => (e0.bs b o e).1
  have kinds : ∀ y ∈ ps.zip us, (defScope st).names.lookup y.1 = some .local ∨
      ((defScope st).names.lookup y.1 = some .cell ∧ ((cellsFrom (s.heap.objs.size + 1) (defScope st).names []).lookup y.1).isSome = true) := by
    intro y hy
    cases S.par y.1 (List.of_mem_zip hy).1 with
    | inl q => exact Or.inl q
    | inr q => exact Or.inr ⟨q, PySem.W.cellsFrom_some _ _ _ (Or.inl q)⟩
  refine codeAny_call_function hr.depth (inK _ _ lk) rfl S.co S.gen rfl (PySem.W.codeRec_of inK hcd) (hb _ _ _ _ ?_)
  refine wpAny_newFunctionEnv_cells S.kind kinds fun env he s1 x => ?_
  subst he
  refine And.intro (hlim.keeps x.toInCall.keep) (codeAny_func ?_)
  obtain ⟨t, ht0, hq⟩ := body cdv A ou s H vs Q E hgd (hr.deeper _) hsp
  have ht := ht0.nox
  have J0 := inv_start (CX := CX0) S hr.hd e0 (cnt _ _ _ _ hsp) rv x (E := E)
  refine wpAny_mono (ht.run [] s1 (start N vs) H _ J0 hq) ?_ (fun e s' hs => hs)
  intro fl s' hs
  cases fl with
  | ret u =>
    obtain ⟨v, σ', H', J, r1, q⟩ := hs
    exact ⟨v, H', J.os, J.bare, J.base, J.hok, r1, q⟩
  | next =>
    obtain ⟨σ', H', J, q⟩ := hs
    exact ⟨V.non, H', J.os, J.bare, J.base, J.hok, rfl, q⟩
  | brk => exact hs.choose_spec.choose_spec.2.elim
  | cont => exact hs.choose_spec.choose_spec.2.elim
end

section
variable {X : Cx} {k : Nat} {f : Addr} {fd : FuncData} {ps ks : List Str} {sp : Sp} {dvs : List V} {ds : List Value} {E : XK} {x : Str} {p pos : Pos} {e : Expr} {es : List Expr} {t : TA}
/-- f(e, ..) of such a def -/
theorem pe_callGd (F : FnG X.prog X.w X.K X.mg X.base k f fd ps sp) (hgd : X.A.guards = some []) (hr : Room k X.A) (hg : Gl X x) (hm : X.mg x = some (.ref f)) (hk : PySem.W.keepIn X.K (.ref f) = true)
    (hb : Binds X.K fd ps []) (ha : PA X (e :: es) t) (hdb : (x == ("__debug__" : Str)) = false := by decide)
    (he : starEach (e :: es) X.env = (false, eval e X.env) :: starEach es X.env := by rfl) (hpl : (backTo pos (starEach es X.env)).any (·.1) = false := by rfl) :
    PE X (.Call (.Name x p) (e :: es) [] pos) (fun σ H Q => t σ H fun vs H1 => sp vs H1 Q E) := by
  refine ⟨fun pins s σ H Q I h => wpAny_Call_Name_kw (ld_glob I hg hm ?_ hdb)⟩
  refine PySem.W.callWith_K (h₀ := X.base) I.ok.mod.kin hk (thn (ha.run pos pins s σ H _ I h) ?_) he hpl
  intro us s1 hus
  obtain ⟨vs, H1, I1, r, q⟩ := hus
  refine ⟨I1.kIn, ?_⟩
  have hl : (us ++ []).length = ps.length := by rw [List.append_nil, ← r.length]; exact F.cnt _ _ _ _ q
  have hbt := hb s1 us I1.kIn hl
  rw [List.append_nil] at hbt
  refine wpAny_call (codeAny_mono (F.go X.A X.stack s1 H1 ⟨us, []⟩ us vs Q E hgd hr I1.env0 hbt r q) ?_)
  intro rr s' hq
  cases rr with
  | error ev => exact hq.elim
  | ok fl =>
    cases fl with
    | ret u => exact I1.after hq
    | next => exact hq.elim
    | brk => exact hq.elim
    | cont => exact hq.elim

/-- repr of a list or a tuple of plain data -/
def rRepr (K : PySem.W.Frag) : List V → Hp → VK → Prop := fun xs H Q => ∃ (a : Addr) (d : PyData), xs = [.ref a] ∧ Dp K H (.ref a) d ∧ d.showable = true ∧ d.hasDict = false ∧ d.depth ≤ 60 ∧
  d.shown.length ≤ sizeLine ∧ Q (.str d.shown) H
theorem call_reprD (hgd : X.A.guards = some []) (hu : X.A.units + 64 < cLine) : CallR X (.builtin "repr") (rRepr X.K) := by
  intro pins s σ H xs us Q I r h
  obtain ⟨a, d, rfl, hd, hs, hnd, hdp, hz, q⟩ := h
  obtain ⟨u, rfl, ru⟩ := vals1 r
  obtain rfl : u = Value.ref a := ru
  obtain ⟨as, r1⟩ := Dp.reads I d (.ref a) (.ref a) hd rfl
  refine repr_of_reads' r1 hs (fun z => by rw [hnd] at z; cases z) hgd (by omega) (fun _ _ e => e) (fun h' tu tk hk => ?_) hz
  refine ⟨.str d.shown, H, ?_, ⟨tu, rfl⟩, q⟩
  exact I.kept (t' := tk) hk
/-- x * n of a text -/
def rMulS : R2 := fun x y H Q => ∃ (z : Str) (n : Int), x = .str z ∧ y = .int n ∧ 0 ≤ n ∧ n < 2 ^ 30 ∧ z.length * n.toNat ≤ 1000000 ∧ Q (.str (Txt.mul z n)) H
end
end G1
/-! the end of a row whose law calls repr -/
namespace G1
open PySem PySem.Spec PyProof.Rows L2

theorem enterG {P : Program} {w : World} {K : PySem.W.Frag} {mg mb : Str → Option Value} {k : Nat} {fa a : Addr} {fd : FuncData} {x : Str} {sp : Sp} {s₁ : Shared} {vs : List Value} {ns : List Int}
    (inK : K.In s₁.heap) (hns : s₁.heap.Ns mainGlobals mg) (hbn : s₁.heap.Ns builtinsNs mb) (hbb : ∀ x : Str, x ≠ "__name__" → mb x = bootBuiltins x) (hlim : s₁.heap.NoLimit) (hg0 : s₁.gens = #[])
    (ha : s₁.heap.get? a = some { cls := .type "list", data := .seq vs.toArray }) (hi : IntsAre vs ns) (hl : ns.length ≤ sizeLine) (hr : Room k callerA)
    (F : ∀ base : Heap, K.In base → base.Ns mainGlobals mg → FnG P w K mg base k fa fd [x] sp)
    (hbind : ∀ (s : Shared) (u : Value), BindsTo s fd ⟨[u], []⟩ [(x, u)])
    (hsp : ∀ H : Hp, Only H → SqL K H a (ns.map V.int) → sp [.ref a] H (fun v _ => v = .bl true) fun _ _ _ => False) :
    codeAny (model P w) callerA (.call (.ref fa) ⟨[.ref a], []⟩)
      (fun r s' => r = .ok (.ret (.bool true)) ∧ OldK s₁.heap s'.heap ∧ s'.os = s₁.os ∧ AllBare s'.gens) s₁ := by
  have rv := vals_ints hi
  have lv := hi.length
  suffices core : ∀ H : Hp, Only H → SqL K H a (ns.map V.int) → HOk P w H s₁.heap → (∀ b, H b ≠ none → b = a ∧ K.lookup a = none) →
      codeAny (model P w) callerA (.call (.ref fa) ⟨[.ref a], []⟩)
        (fun r s' => r = .ok (.ret (.bool true)) ∧ OldK s₁.heap s'.heap ∧ s'.os = s₁.os ∧ AllBare s'.gens) s₁ by
    by_cases hk : K.lookup a = none
    · refine core (fun b => if b = a then some (.frz { cls := .type "list", data := .seq vs.toArray } (.lst (ns.map V.int))) else none) ?_ (Or.inl (Or.inr ⟨_, if_pos rfl⟩)) ?_ ?_
      · intro b
        by_cases hb : b = a
        · exact Or.inr ⟨_, _, if_pos hb⟩
        · exact Or.inl (if_neg hb)
      · intro b u z
        dsimp only at z
        by_cases hb : b = a
        · rw [if_pos hb] at z
          cases z
          subst hb
          exact ⟨ha, by rw [List.length_map]; exact hl, vs, _, rv, ha⟩
        · rw [if_neg hb] at z
          cases z
      · intro b z
        by_cases hb : b = a
        · exact ⟨hb, hk⟩
        · exact absurd (if_neg hb) z
    · obtain ⟨o, ho⟩ := Option.ne_none_iff_exists'.mp hk
      have e := inK a o ho
      rw [ha] at e
      cases e
      exact core (fun _ => none) (fun _ => Or.inl rfl) (Or.inr ⟨_, vs.toArray, _, ho, rfl, rfl, rfl, by rw [List.size_toArray, lv]; exact hl, by simpa using rv⟩)
        (fun b u z => by cases z) (fun b z => absurd rfl z)
  intro H hO hS hok hA
  have untr : ∀ {b : Addr} {o : Obj} {es : Array DictEntry} {ep : Nat}, s₁.heap.get? b = some o → o.data = .dict es ep → H b = none := by
    intro b o es ep e d
    by_cases q : H b = none
    · exact q
    · obtain ⟨rfl, _⟩ := hA b q
      rw [ha] at e
      cases e
      exact nomatch d
  have tohid : ∀ {b : Addr} {m : Str → Option Value}, s₁.heap.Ns b m → (hidT s₁.heap H).Ns b m := by
    rintro b m ⟨o, es, ep, e, d, r⟩
    exact ⟨o, es, ep, hidT_get e (untr e d), d, r⟩
  have hKb : K.In (hidT s₁.heap H) := by
    intro b o e
    refine hidT_get (inK b o e) ?_
    by_cases q : H b = none
    · exact q
    · obtain ⟨rfl, z⟩ := hA b q
      rw [z] at e
      cases e
  obtain ⟨mc, l1, l2⟩ := hlim
  have hM : Mod K mg (hidT s₁.heap H) := ⟨hKb, tohid hns, ⟨mb, tohid hbn, hbb⟩, ⟨mc, tohid l1, l2⟩⟩
  have e0 : Env0 P w K mg (hidT s₁.heap H) callerA [] s₁ H :=
    ⟨rfl, hM, fun b o e => of_hidT e, Nat.le_of_eq (hidT_size _ _), trivial, fun b hb => (List.not_mem_nil hb).elim, hok, .of_eq hg0⟩
  refine codeAny_mono ((F _ hKb (tohid hns)).go callerA [] s₁ H ⟨[.ref a], []⟩ [.ref a] [.ref a] _ _ rfl hr e0 (hbind s₁ (.ref a)) (.cons rfl .nil) (hsp H hO hS)) ?_
  intro r s' h
  cases r with
  | error e => exact h.elim
  | ok fl =>
    cases fl with
    | next => exact h.elim
    | brk => exact h.elim
    | cont => exact h.elim
    | ret u =>
      obtain ⟨v, H', os, bare, un, hok', r', q⟩ := h
      subst q
      obtain rfl : u = Value.bool true := r'
      refine ⟨rfl, OldK.of_keep (fun b o e => ?_), os, bare⟩
      rcases hO b with z | ⟨ob, xs, z⟩
      · exact un.keep b o e z (fun y => (List.not_mem_nil y).elim) List.not_mem_nil
      · obtain ⟨e1, _⟩ := hok b _ z
        obtain ⟨e2, _⟩ := hok' b _ (un.frzs b ob _ z)
        rw [e] at e1
        cases e1
        exact e2

theorem walkG {l : PySem.W.OpenLaw} {n k : Nat} {q : Program} {loose : List Str} {XP : (Str → Option Value) → Heap → Prop} {YP : World → Heap → Prop} {d : DefRec} {K : Params → PySem.W.Frag} {sp : PySem.W.Frag → Sp} {x : Str}
    (hn : l.most = some n) (hn2 : n ≤ sizeLine) (hdf : d.params.defaults = []) (hr : Room k callerA)
    (hY : ∀ (w : World) (h : Heap), YP w h → (K w.params).In h)
    (F : ∀ (w : World) (mg : Str → Option Value) (fa : Addr) (h : Heap), (K w.params).In h → h.Ns mainGlobals mg → mg d.name = some (.ref fa) →
      ∃ fd : FuncData, (∀ (s : Shared) (u : Value), BindsTo s fd ⟨[u], []⟩ [(x, u)]) ∧
        ∀ base : Heap, (K w.params).In base → base.Ns mainGlobals mg → FnG l.prog w (K w.params) mg base k fa fd [x] (sp (K w.params)))
    (hsp : ∀ (K : PySem.W.Frag) (H : Hp) (a : Addr) (ns : List Int), ns.length ≤ n → Only H → SqL K H a (ns.map V.int) → sp K [.ref a] H (fun v _ => v = .bl true) fun _ _ _ => False) :
    PySem.W.WalkO q loose XP YP l.row.toRowW d [] (fun f vs => PySem.call f vs) := by
  refine Att.attach_call hn hdf ?_
  intro w s₀ s₁ mg mb fa o pm cd doc a vs ns G Y ho hd hcd hmg hobj hints hlen hg0
  have inK := hY w _ Y
  obtain ⟨fd, hb, hF⟩ := F w mg fa _ inK G.T.g hmg
  exact enterG inK G.T.g G.T.b G.T.builtins G.T.nolimit hg0 hobj hints (Nat.le_trans hlen hn2) hr hF hb (fun H hO hS => hsp _ H a ns hlen hO hS)
end G1
/-! texts of the signs 0 and 1, as lists of bools -/
namespace G1
open PySem PySem.Spec PyProof.Rows L2

def cB (b : Bool) : Nat := if b then 49 else 48
def B (l : List Bool) : Str := SX.S (l.map cB)
theorem cB_inj {a b : Bool} (h : cB a = cB b) : a = b := by
  cases a <;> cases b <;> first | rfl | (exact absurd h (by decide))
theorem map_cB_inj : ∀ {l m : List Bool}, l.map cB = m.map cB → l = m
  | [], [], _ => rfl
  | [], _ :: _, h => by cases h
  | _ :: _, [], h => by cases h
  | a :: l, b :: m, h => by
    rw [List.map_cons, List.map_cons] at h
    injection h with h1 h2
    rw [cB_inj h1, map_cB_inj h2]
theorem B_inj {l m : List Bool} (h : B l = B m) : l = m := map_cB_inj (SX.S_inj h)
theorem B_dec (l m : List Bool) : decide (V.str (B l) = V.str (B m)) = decide (l = m) := by
  by_cases h : l = m
  · rw [h, decide_eq_true rfl, decide_eq_true rfl]
  · rw [decide_eq_false h, decide_eq_false fun e => h (B_inj (V.str.inj e))]
theorem B_len (l : List Bool) : (B l).length = l.length := by
  unfold B
  rw [SX.S_len, List.length_map]
theorem B_cps (l : List Bool) : (B l).cps.toList = l.map cB := rfl
theorem B_app (l m : List Bool) : B l ++ B m = B (l ++ m) := by
  unfold B
  rw [SX.S_cat, List.map_append]
theorem B_nil : ("" : Str) = B [] := by decide +kernel
theorem B_0 : ("0" : Str) = B [false] := by decide +kernel
theorem B_1 : ("1" : Str) = B [true] := by decide +kernel
theorem B_one (b : Bool) : (⟨#[cB b]⟩ : Str) = B [b] := by cases b <;> decide +kernel
theorem B_str0 : (Str.ofString (toString (0 : Int))) = B [false] := by decide +kernel
theorem B_str1 : (Str.ofString (toString (1 : Int))) = B [true] := by decide +kernel
theorem B_str (i : Int) (h0 : 0 ≤ i) (h2 : i < 2) : (Str.ofString (toString i)) = B [decide (i = 1)] := by
  have h : i = 0 ∨ i = 1 := by omega
  rcases h with rfl | rfl
  · exact B_str0
  · exact B_str1

/-! ### slices -/
theorem B_cut (l : List Bool) (lo hi : Option Int) : cutS (B l) lo hi = B ((l.drop (HT.sIx l.length 0 lo)).take (HT.sIx l.length l.length hi - HT.sIx l.length 0 lo)) := by
  unfold cutS B
  rw [SX.S_len, List.length_map, ← List.map_drop, ← List.map_take]
theorem sIx_of (n d : Nat) {i : Int} (h : 0 ≤ i) : HT.sIx n d (some i) = min i.toNat n := by
  show (if i < 0 then (i + (n : Int)).toNat else min i.toNat n) = _
  rw [if_neg (by omega)]
theorem B_to (l : List Bool) {j : Int} (h : 0 ≤ j) : cutS (B l) none (some j) = B (l.take j.toNat) := by
  rw [B_cut, sIx_of _ _ h]
  show B ((l.drop 0).take (min j.toNat l.length - 0)) = _
  rw [List.drop_zero, Nat.sub_zero, ← List.take_eq_take_min]
theorem B_from (l : List Bool) {i : Int} (h : 0 ≤ i) : cutS (B l) (some i) none = B (l.drop i.toNat) := by
  rw [B_cut, sIx_of _ _ h]
  show B ((l.drop (min i.toNat l.length)).take (l.length - min i.toNat l.length)) = _
  rw [List.take_of_length_le (by rw [List.length_drop]; omega)]
  by_cases hi : i.toNat ≤ l.length
  · rw [Nat.min_eq_left hi]
  · rw [Nat.min_eq_right (by omega), List.drop_length, List.drop_of_length_le (by omega)]
theorem B_mid (l : List Bool) {i j : Int} (h : 0 ≤ i) (hj : 0 ≤ j) : cutS (B l) (some i) (some j) = B ((l.take j.toNat).drop i.toNat) := by
  rw [B_cut, sIx_of _ _ h, sIx_of _ _ hj]
  congr 1
  apply List.ext_getElem?
  intro k
  rw [List.getElem?_take, List.getElem?_drop, List.getElem?_drop, List.getElem?_take]
  by_cases hi : i.toNat ≤ l.length
  · rw [Nat.min_eq_left hi]
    by_cases hj2 : j.toNat ≤ l.length
    · rw [Nat.min_eq_left hj2]
      by_cases h3 : k < j.toNat - i.toNat
      · rw [if_pos h3, if_pos (by omega)]
      · rw [if_neg h3, if_neg (by omega)]
    · rw [Nat.min_eq_right (by omega)]
      by_cases h3 : k < l.length - i.toNat
      · rw [if_pos h3, if_pos (by omega)]
      · rw [if_neg h3]
        split
        · exact (List.getElem?_eq_none (by omega)).symm
        · rfl
  · have hm : min i.toNat l.length = l.length := Nat.min_eq_right (Nat.le_of_lt (Nat.lt_of_not_le hi))
    rw [hm, List.getElem?_eq_none (by omega), List.getElem?_eq_none (by omega)]
    split <;> split <;> rfl

/-! ### signs -/
theorem B_at (l : List Bool) {i : Int} {k : Nat} {b : Bool} (hi : i = (k : Int)) (h : l[k]? = some b) : atI (B l).cps.toList i = some (cB b) := by
  subst hi
  refine atI_nat ?_
  rw [B_cps, List.getElem?_map, h]
  rfl
theorem B_atNeg (l : List Bool) {i : Int} {k : Nat} {b : Bool} (hi : i = -1 - (k : Int)) (hk : k < l.length) (h : l[l.length - 1 - k]? = some b) : atI (B l).cps.toList i = some (cB b) := by
  unfold atI ixN
  have e1 : (B l).cps.toList.length = l.length := by rw [B_cps, List.length_map]
  rw [e1, if_neg (by omega), if_pos (by omega)]
  show (B l).cps.toList[(i + (l.length : Int)).toNat]? = _
  rw [show (i + (l.length : Int)).toNat = l.length - 1 - k by omega, B_cps, List.getElem?_map, h]
  rfl

/-! ### many times -/
def rep (n : Nat) (l : List Bool) : List Bool := (List.replicate n l).flatten
theorem rep_zero (l : List Bool) : rep 0 l = [] := rfl
theorem rep_succ (n : Nat) (l : List Bool) : rep (n + 1) l = l ++ rep n l := by
  unfold rep
  rw [List.replicate_succ, List.flatten_cons]
theorem rep_length (n : Nat) (l : List Bool) : (rep n l).length = n * l.length := by
  induction n with
  | zero => rw [rep_zero, Nat.zero_mul]; rfl
  | succ n ih => rw [rep_succ, List.length_append, ih, Nat.succ_mul, Nat.add_comm]
theorem rep_get (n : Nat) (l : List Bool) (i : Nat) (h : i < n * l.length) : (rep n l)[i]? = l[i % l.length]? := by
  induction n generalizing i with
  | zero => rw [Nat.zero_mul] at h; omega
  | succ n ih =>
    rw [rep_succ]
    by_cases hi : i < l.length
    · rw [List.getElem?_append_left hi, Nat.mod_eq_of_lt hi]
    · have h1 : l.length ≤ i := by omega
      rw [List.getElem?_append_right h1, ih (i - l.length) (by rw [Nat.succ_mul] at h; omega), ← Nat.mod_eq_sub_mod h1]
theorem foldl_app (c : Array Nat) : ∀ (n : Nat) (acc : Array Nat), ((List.replicate n c).foldl (· ++ ·) acc).toList = acc.toList ++ (List.replicate n c.toList).flatten
  | 0, acc => by simp
  | n + 1, acc => by
    rw [List.replicate_succ, List.foldl_cons, foldl_app c n, List.replicate_succ, List.flatten_cons, Array.toList_append, List.append_assoc]
theorem map_rep (n : Nat) (l : List Bool) : (rep n l).map cB = (List.replicate n (l.map cB)).flatten := by
  induction n with
  | zero => rfl
  | succ n ih => rw [rep_succ, List.map_append, ih, List.replicate_succ, List.flatten_cons]
theorem B_mul (l : List Bool) {n : Int} (h : 0 ≤ n) : Txt.mul (B l) n = B (rep n.toNat l) := by
  unfold Txt.mul
  by_cases h1 : n < 1
  · rw [if_pos h1, show n.toNat = 0 by omega, rep_zero]
    rfl
  · rw [if_neg h1]
    by_cases h2 : (n == 1 || (B l).length == 0) = true
    · rw [if_pos h2]
      rw [Bool.or_eq_true, beq_iff_eq, beq_iff_eq, B_len] at h2
      rcases h2 with h2 | h2
      · subst h2
        show B l = B (rep 1 l)
        rw [rep_succ, rep_zero, List.append_nil]
      · rw [List.length_eq_zero_iff] at h2
        subst h2
        congr 1
        have := rep_length n.toNat []
        rw [List.length_nil, Nat.mul_zero, List.length_eq_zero_iff] at this
        exact this.symm
    · rw [if_neg h2]
      unfold B
      rw [map_rep]
      refine TL.ext_tl ?_
      show (List.foldl (· ++ ·) #[] (List.replicate n.toNat (SX.S (l.map cB)).cps)).toList = _
      rw [foldl_app]
      simp [TL.tl]

/-! ### joined -/
theorem join_nil (ls : List (List Bool)) : Txt.join (B []) (ls.map B) = B ls.flatten := by
  have e : ls.map B = (ls.map (List.map cB)).map SX.S := by rw [List.map_map]; rfl
  rw [e]
  show Txt.join (SX.S []) _ = _
  rw [SX.join_S]
  unfold B
  congr 1
  have key : ∀ ms : List (List Nat), TL.joinL [] ms = ms.flatten := by
    intro ms
    induction ms with
    | nil => rfl
    | cons m ms ih =>
      cases ms with
      | nil => simp [TL.joinL]
      | cons k ks =>
        rw [List.flatten_cons, ← ih]
        simp [TL.joinL]
  rw [key, ← List.map_flatten]
end G1
namespace G1
open PySem PySem.Spec PyProof.Rows L2
section
variable {X : Cx}
theorem tooLong_no {n : Nat} (h : n ≤ 1000000) : Builtin.Str.tooLong n = false := by
  unfold Builtin.Str.tooLong
  rw [decide_eq_false_iff_not]
  exact Nat.not_lt.mpr (Nat.le_trans h (by decide))
theorem op_mulS : OpR X (binaryOp .Mult) rMulS := by
  intro pins s σ H x y v u Q I rx ry h
  obtain ⟨z, n, rfl, rfl, h0, h1, h2, q⟩ := h
  obtain ⟨t, rfl⟩ := rx
  obtain ⟨t2, rfl⟩ := ry
  have hb : z.length = 0 ∨ n.toNat = 0 ∨ (z.length ≤ 1000000) := by
    rcases Nat.eq_zero_or_pos z.length with e | e
    · exact .inl e
    · rcases Nat.eq_zero_or_pos n.toNat with e2 | e2
      · exact .inr (.inl e2)
      · refine .inr (.inr (Nat.le_trans ?_ h2))
        exact Nat.le_mul_of_pos_right _ e2
  refine PySem.SB.mul ⟨?_, fun a b c => ?_, fun a b => tooLong_no h2⟩ fun t' k => ⟨.str (Txt.mul z n), H, I.tok _, ⟨_, rfl⟩, q⟩
  · rw [Bool.or_eq_false_iff]
    exact ⟨decide_eq_false (by omega), decide_eq_false (by omega)⟩
  · rw [Bool.or_eq_false_iff] at b
    have hz : z.length ≠ 0 := by
      have := b.2
      simpa using this
    have hz2 : (z.length : Int) ≤ 1000000 := by omega
    have h3 : (2 ^ 63 - 1 : Int) / n ≥ 1000000 := by
      apply Int.le_ediv_of_mul_le (by omega)
      omega
    omega
end
theorem szM {n : Nat} (h : n ≤ 1000000) : n ≤ sizeLine := Nat.le_trans h (by decide)
end G1
namespace G1
open PySem PySem.Spec PyProof.Rows L2
theorem B_last (l : List Bool) : cutS (B l) (some (-1)) none = B (l.drop (l.length - 1)) := by
  rw [B_cut]
  have e : HT.sIx l.length 0 (some (-1)) = l.length - 1 := by
    show (if (-1 : Int) < 0 then (-1 + (l.length : Int)).toNat else min (-1 : Int).toNat l.length) = _
    rw [if_pos (by decide)]
    omega
  rw [e]
  show B ((l.drop (l.length - 1)).take (l.length - (l.length - 1))) = _
  rw [List.take_of_length_le (by rw [List.length_drop]; omega)]
theorem B_init (l : List Bool) : cutS (B l) none (some (-1)) = B (l.take (l.length - 1)) := by
  rw [B_cut]
  have e : HT.sIx l.length l.length (some (-1)) = l.length - 1 := by
    show (if (-1 : Int) < 0 then (-1 + (l.length : Int)).toNat else min (-1 : Int).toNat l.length) = _
    rw [if_pos (by decide)]
    omega
  rw [e]
  show B ((l.drop 0).take (l.length - 1 - 0)) = _
  rw [List.drop_zero, Nat.sub_zero]
end G1
/-! calls by keywords alone; repr of a truth -/
namespace G1
open PySem PySem.Spec PyProof.Rows L2
section
variable {X : Cx} {CX : CXT} {k : Nat} {f : Addr} {fd : FuncData} {ps ks : List Str} {sp : Sp} {E : XK} {x : Str} {p pos : Pos} {kws : List Keyword} {tk : TA}
variable {g : List Value → List Value → List Value} {gV : List V → List V → List V}
/-- f(k = v, ..) -/
theorem pe_callK0 (F : FnOk X.prog X.w X.K X.mg X.base CX k f fd ps sp) (hr : Room k X.A) (hg : Gl X x) (hm : X.mg x = some (.ref f)) (hk : PySem.W.keepIn X.K (.ref f) = true) (hb : KBinds X.K fd ps ks g gV) (hx : Passes CX X E)
    (hkw : PK X kws tk) (hall : (backToKw pos (keywordEach kws X.env)).all (·.1.isSome) = true := by rfl) (hks : (backToKw pos (keywordEach kws X.env)).filterMap (·.1) = ks := by rfl)
    (hdb : (x == ("__debug__" : Str)) = false := by decide)
    (hpl : ((backTo pos (starEach [] X.env)).any (·.1) || (backToKw pos (keywordEach kws X.env)).any (·.1.isNone)) = false := by rfl) :
    PE X (.Call (.Name x p) [] kws pos) (fun σ H Q => tk σ H fun zs H1 => sp (gV [] zs) H1 Q E) := by
  refine ⟨fun pins s σ H Q I h => wpAny_Call_Name_kw (ld_glob I hg hm ?_ hdb)⟩
  refine PySem.W.callWith_KW0 (h₀ := X.base) I.ok.mod.kin hk hall (thn (hkw.run pos pins s σ H _ I h) ?_) hpl
  intro ws s2 hws
  obtain ⟨zs, H2, I2, rz, q2⟩ := hws
  refine ⟨I2.kIn, ?_⟩
  rw [hks]
  exact run_fnk (us := []) (vs := []) F hr hb hx I2 .nil rz q2
end
/-- two keywords, the second parameter's first -/
def swapW {α : Type} : List α → List α → List α
  | [], a :: b :: _ => [b, a]
  | _, _ => []
theorem kbinds_swap {K : PySem.W.Frag} {fd : FuncData} {p0 p1 : Str}
    (h : ∀ a b : Value, bindArgs fd ⟨[], [(p1, a), (p0, b)]⟩ = pure [(p0, b), (p1, a)]) : KBinds K fd [p0, p1] [p1, p0] swapW swapW := by
  refine ⟨fun s us ws _ hl => ?_, fun {vs us zs ws} r1 r2 => ?_⟩
  · cases us with
    | cons u us => cases hl
    | nil =>
      cases ws with
      | nil => cases hl
      | cons a ws =>
        cases ws with
        | nil => cases hl
        | cons b ws => exact .of_eq (h a b)
  · cases r1 with
    | cons q t => exact .nil
    | nil =>
      cases r2 with
      | nil => exact .nil
      | cons q1 t1 =>
        cases t1 with
        | nil => exact .nil
        | cons q2 t2 => exact .cons q2 (.cons q1 .nil)
section
variable {X : Cx}
theorem call_reprB : CallR X (.builtin "repr") (fun xs H Q => ∃ b : Bool, xs = [.bl b] ∧ Q (.str (if b then "True" else "False")) H) := by
  intro pins s σ H xs us Q I r h
  obtain ⟨b, rfl, q⟩ := h
  obtain ⟨u, rfl, ru⟩ := vals1 r
  obtain rfl : u = Value.bool b := ru
  exact PySem.P.repr_of_bool ⟨.str _, H, I.tok _, ⟨_, rfl⟩, q⟩
end
end G1
namespace G1
open PySem PySem.Spec PyProof.Rows L2
/-- one keyword -/
def oneW {α : Type} : List α → List α → List α
  | [], a :: _ => [a]
  | _, _ => []
theorem kbinds_one {K : PySem.W.Frag} {fd : FuncData} {p0 : Str} (h : ∀ a : Value, bindArgs fd ⟨[], [(p0, a)]⟩ = pure [(p0, a)]) : KBinds K fd [p0] [p0] oneW oneW := by
  refine ⟨fun s us ws _ hl => ?_, fun {vs us zs ws} r1 r2 => ?_⟩
  · cases us with
    | cons u us => cases hl
    | nil =>
      cases ws with
      | nil => cases hl
      | cons a ws => exact .of_eq (h a)
  · cases r1 with
    | cons q t => exact .nil
    | nil =>
      cases r2 with
      | nil => exact .nil
      | cons q1 t1 => exact .cons q1 .nil
/-- a value by a word: what follows is shown once -/
theorem pe_cut {X : Cx} {e : Expr} {t : TE} (h : PE X e t) : PE X e (fun σ H Q => ∃ M : V → Hp → Prop, t σ H M ∧ ∀ v H', M v H' → Q v H') := by
  refine ⟨fun pins s σ H Q I hq => ?_⟩
  obtain ⟨M, h1, h2⟩ := hq
  refine thn (h.run pins s σ H M I h1) ?_
  intro u s1 hu
  obtain ⟨v, H1, I1, r1, q1⟩ := hu
  exact ⟨v, H1, I1, r1, h2 v H1 q1⟩
end G1
namespace G1
open PySem PySem.Spec PyProof.Rows L2
theorem cB_small (b : Bool) : cB b < 16 ^ 8 := by cases b <;> decide
theorem leaf_B (l : List Bool) : PyData.leavesShort 8 (.str (B l)) = true := by
  simp only [PyData.leavesShort, List.all_eq_true, decide_eq_true_eq]
  intro c hc
  rw [B_cps] at hc
  obtain ⟨b, _, rfl⟩ := List.mem_map.mp hc
  exact cB_small b
theorem w_B (l : List Bool) : PyData.weight (.str (B l)) = l.length := by
  simp only [PyData.weight]
  exact B_len l
/-- repr of one object, read as data that is not great -/
theorem go_repr {K : PySem.W.Frag} {H : Hp} {R : PyData → Prop} {a : Addr} (d : PyData) (hd : Dp K H (.ref a) d) (h1 : d.showable = true) (h2 : d.hasDict = false) (h3 : d.depth ≤ 60) (h4 : d.leavesShort 8 = true) (h5 : d.weight ≤ 2 ^ 20) (q : R d) :
    ∃ (a' : Addr) (d' : PyData), [V.ref a] = [V.ref a'] ∧ Dp K H (.ref a') d' ∧ d'.showable = true ∧ d'.hasDict = false ∧ d'.depth ≤ 60 ∧ d'.shown.length ≤ sizeLine ∧ R d' :=
  ⟨a, d, rfl, hd, h1, h2, h3, PyData.shown_fits (Nat.le_refl _) (by decide) h4 h5, q⟩
theorem str_refl (z : Str) : decide (V.str z = V.str z) = true := decide_eq_true rfl
end G1
namespace G1
open PySem PySem.Spec PyProof.Rows L2
/-- the data of a table, of lists of texts and of truths -/
def dTab (h t : List Bool) : PyData := .tuple [.str (B h), .str (B t)]
theorem dp_tab {K : PySem.W.Frag} {H : Hp} {p : Addr} {h t : List Bool} (e : H p = some (.tup [.str (B h), .str (B t)])) : Dp K H (.ref p) (dTab h t) :=
  .tup (.inl (.inl e)) (.cons (.str _) (.cons (.str _) .nil))
def dStrs (ls : List (List Bool)) : PyData := .list (ls.map fun l => .str (B l))
def dBools (bs : List Bool) : PyData := .list (bs.map PyData.bool)
theorem dpAll_strs {K : PySem.W.Frag} {H : Hp} : ∀ ls : List (List Bool), DpAll K H (ls.map fun l => V.str (B l)) (ls.map fun l => .str (B l))
  | [] => .nil
  | l :: ls => .cons (.str _) (dpAll_strs ls)
theorem dpAll_bools {K : PySem.W.Frag} {H : Hp} : ∀ bs : List Bool, DpAll K H (bs.map V.bl) (bs.map PyData.bool)
  | [] => .nil
  | b :: bs => .cons (.bl _) (dpAll_bools bs)
/-- repr of a table -/
theorem repr_tab {K : PySem.W.Frag} {H : Hp} {R : PyData → Prop} {a : Addr} {h t : List Bool} (e : H a = some (.tup [.str (B h), .str (B t)])) (h1 : h.length ≤ 5000) (t1 : t.length ≤ 5000) (q : R (dTab h t)) :
    ∃ (a' : Addr) (d' : PyData), [V.ref a] = [V.ref a'] ∧ Dp K H (.ref a') d' ∧ d'.showable = true ∧ d'.hasDict = false ∧ d'.depth ≤ 60 ∧ d'.shown.length ≤ sizeLine ∧ R d' := by
  refine go_repr (dTab h t) (dp_tab e) ?_ ?_ ?_ ?_ ?_ q
  · simp [dTab, PyData.showable, PyData.showableAll]
  · simp [dTab, PyData.hasDict, PyData.hasDictAll]
  · simp [dTab, PyData.depth, PyData.depthAll]
  · simp only [dTab, PyData.leavesShort, PyData.leavesShortAll, Bool.and_eq_true]
    exact ⟨leaf_B h, leaf_B t, trivial⟩
  · simp only [dTab, PyData.weight, PyData.weightAll]
    have e1 := w_B h
    have e2 := w_B t
    simp only [PyData.weight] at e1 e2
    omega
/-- repr of three texts -/
theorem repr_s3 {K : PySem.W.Frag} {H : Hp} {R : PyData → Prop} {a : Addr} {x y z : List Bool} (e : H a = some (.lst [.str (B x), .str (B y), .str (B z)])) (h1 : x.length ≤ 100000) (h2 : y.length ≤ 100000) (h3 : z.length ≤ 100000) (q : R (dStrs [x, y, z])) :
    ∃ (a' : Addr) (d' : PyData), [V.ref a] = [V.ref a'] ∧ Dp K H (.ref a') d' ∧ d'.showable = true ∧ d'.hasDict = false ∧ d'.depth ≤ 60 ∧ d'.shown.length ≤ sizeLine ∧ R d' := by
  refine go_repr (dStrs [x, y, z]) (.lst (.inl (.inl e)) (dpAll_strs [x, y, z])) ?_ ?_ ?_ ?_ ?_ q
  · simp [dStrs, PyData.showable, PyData.showableAll]
  · simp [dStrs, PyData.hasDict, PyData.hasDictAll]
  · simp [dStrs, PyData.depth, PyData.depthAll]
  · simp only [dStrs, List.map_cons, List.map_nil, PyData.leavesShort, PyData.leavesShortAll, Bool.and_eq_true]
    exact ⟨leaf_B x, leaf_B y, leaf_B z, trivial⟩
  · simp only [dStrs, List.map_cons, List.map_nil, PyData.weight, PyData.weightAll]
    have e1 := w_B x
    have e2 := w_B y
    have e3 := w_B z
    simp only [PyData.weight] at e1 e2 e3
    omega
theorem bools_ok : ∀ bs : List Bool, PyData.showableAll (bs.map PyData.bool) = true ∧ PyData.hasDictAll (bs.map PyData.bool) = false ∧ PyData.depthAll (bs.map PyData.bool) = 0 ∧ PyData.leavesShortAll 8 (bs.map PyData.bool) = true ∧ PyData.weightAll (bs.map PyData.bool) ≤ 2 * bs.length
  | [] => by simp [PyData.showableAll, PyData.hasDictAll, PyData.depthAll, PyData.leavesShortAll, PyData.weightAll]
  | b :: bs => by
    obtain ⟨h1, h2, h3, h4, h5⟩ := bools_ok bs
    simp [PyData.showableAll, PyData.hasDictAll, PyData.depthAll, PyData.leavesShortAll, PyData.weightAll, PyData.showable, PyData.hasDict, PyData.depth, PyData.leavesShort, PyData.weight, h1, h2, h3, h4]
    omega
/-- repr of truths -/
theorem repr_bs {K : PySem.W.Frag} {H : Hp} {R : PyData → Prop} {a : Addr} (bs : List Bool) {xs : List V} (e : H a = some (.lst xs)) (ex : xs = bs.map V.bl) (hl : bs.length ≤ 1000) (q : R (dBools bs)) :
    ∃ (a' : Addr) (d' : PyData), [V.ref a] = [V.ref a'] ∧ Dp K H (.ref a') d' ∧ d'.showable = true ∧ d'.hasDict = false ∧ d'.depth ≤ 60 ∧ d'.shown.length ≤ sizeLine ∧ R d' := by
  subst ex
  obtain ⟨h1, h2, h3, h4, h5⟩ := bools_ok bs
  refine go_repr (dBools bs) (.lst (.inl (.inl e)) (dpAll_bools bs)) ?_ ?_ ?_ ?_ ?_ q
  · simp only [dBools, PyData.showable]; exact h1
  · simp only [dBools, PyData.hasDict]; exact h2
  · simp only [dBools, PyData.depth, h3]; omega
  · simp only [dBools, PyData.leavesShort]; exact h4
  · simp only [dBools, PyData.weight]; omega
end G1
namespace G1
open PySem PySem.Spec PyProof.Rows L2
def dMix (a b c : Bool) (x : List Bool) : PyData := .list [.bool a, .bool b, .bool c, .str (B x)]
theorem repr_mix {K : PySem.W.Frag} {H : Hp} {R : PyData → Prop} {p : Addr} {a b c : Bool} {x : List Bool} (e : H p = some (.lst [.bl a, .bl b, .bl c, .str (B x)])) (h1 : x.length ≤ 100000) (q : R (dMix a b c x)) :
    ∃ (a' : Addr) (d' : PyData), [V.ref p] = [V.ref a'] ∧ Dp K H (.ref a') d' ∧ d'.showable = true ∧ d'.hasDict = false ∧ d'.depth ≤ 60 ∧ d'.shown.length ≤ sizeLine ∧ R d' := by
  refine go_repr (dMix a b c x) (.lst (.inl (.inl e)) (.cons (.bl _) (.cons (.bl _) (.cons (.bl _) (.cons (.str _) .nil))))) ?_ ?_ ?_ ?_ ?_ q
  · simp [dMix, PyData.showable, PyData.showableAll]
  · simp [dMix, PyData.hasDict, PyData.hasDictAll]
  · simp [dMix, PyData.depth, PyData.depthAll]
  · simp only [dMix, PyData.leavesShort, PyData.leavesShortAll, Bool.and_eq_true]
    exact ⟨trivial, trivial, trivial, leaf_B x, trivial⟩
  · simp only [dMix, PyData.weight, PyData.weightAll]
    have e1 := w_B x
    simp only [PyData.weight] at e1
    omega
theorem L_01 : Str.ofString "01" = B [false, true] := by decide +kernel
theorem L_001 : Str.ofString "001" = B [false, false, true] := by decide +kernel
theorem L_1000 : Str.ofString "1000" = B [true, false, false, false] := by decide +kernel
end G1
namespace G1
open PySem PySem.Spec PyProof.Rows L2
/-- data that may stand in a list that is shown -/
structure Small (d : PyData) : Prop where
  sh : d.showable = true
  nd : d.hasDict = false
  dp : d.depth ≤ 20
  lv : d.leavesShort 8 = true
  wt : d.weight ≤ 20000
theorem small_bool (b : Bool) : Small (.bool b) := ⟨rfl, rfl, by simp [PyData.depth], rfl, by simp [PyData.weight]⟩
theorem small_none : Small .none := ⟨rfl, rfl, by simp [PyData.depth], rfl, by simp [PyData.weight]⟩
theorem small_B {l : List Bool} (h : l.length ≤ 20000) : Small (.str (B l)) := by
  refine ⟨rfl, rfl, by simp [PyData.depth], leaf_B l, ?_⟩
  rw [w_B]; exact h
theorem small_tab {h t : List Bool} (h1 : h.length ≤ 5000) (t1 : t.length ≤ 5000) : Small (dTab h t) := by
  refine ⟨?_, ?_, ?_, ?_, ?_⟩
  · simp [dTab, PyData.showable, PyData.showableAll]
  · simp [dTab, PyData.hasDict, PyData.hasDictAll]
  · simp [dTab, PyData.depth, PyData.depthAll]
  · simp only [dTab, PyData.leavesShort, PyData.leavesShortAll, Bool.and_eq_true]
    exact ⟨leaf_B h, leaf_B t, trivial⟩
  · simp only [dTab, PyData.weight, PyData.weightAll]
    have e1 := w_B h
    have e2 := w_B t
    simp only [PyData.weight] at e1 e2
    omega
theorem small_all : ∀ ds : List PyData, (∀ d ∈ ds, Small d) → PyData.showableAll ds = true ∧ PyData.hasDictAll ds = false ∧ PyData.depthAll ds ≤ 20 ∧ PyData.leavesShortAll 8 ds = true ∧ PyData.weightAll ds ≤ 20001 * ds.length
  | [], _ => by simp [PyData.showableAll, PyData.hasDictAll, PyData.depthAll, PyData.leavesShortAll, PyData.weightAll]
  | d :: ds, h => by
    obtain ⟨h1, h2, h3, h4, h5⟩ := small_all ds fun e he => h e (List.mem_cons_of_mem _ he)
    have s := h d List.mem_cons_self
    refine ⟨?_, ?_, ?_, ?_, ?_⟩
    · simp [PyData.showableAll, h1, s.sh]
    · simp [PyData.hasDictAll, h2, s.nd]
    · have := s.dp
      simp only [PyData.depthAll]
      omega
    · simp [PyData.leavesShortAll, h4, s.lv]
    · have := s.wt
      simp only [PyData.weightAll, List.length_cons]
      omega
/-- repr of a list of such -/
theorem repr_items {K : PySem.W.Frag} {H : Hp} {R : PyData → Prop} {a : Addr} {xs : List V} (ds : List PyData) (e : H a = some (.lst xs)) (hd : DpAll K H xs ds) (hs : ∀ d ∈ ds, Small d) (hl : ds.length ≤ 40) (q : R (.list ds)) :
    ∃ (a' : Addr) (d' : PyData), [V.ref a] = [V.ref a'] ∧ Dp K H (.ref a') d' ∧ d'.showable = true ∧ d'.hasDict = false ∧ d'.depth ≤ 60 ∧ d'.shown.length ≤ sizeLine ∧ R d' := by
  obtain ⟨h1, h2, h3, h4, h5⟩ := small_all ds hs
  refine go_repr (.list ds) (.lst (.inl (.inl e)) hd) ?_ ?_ ?_ ?_ ?_ q
  · simp only [PyData.showable]; exact h1
  · simp only [PyData.hasDict]; exact h2
  · simp only [PyData.depth]; omega
  · simp only [PyData.leavesShort]; exact h4
  · simp only [PyData.weight]
    have : 20001 * ds.length ≤ 20001 * 40 := Nat.mul_le_mul_left _ hl
    omega
theorem eqv_tab (a b c d : List Bool) : PyData.eqv (dTab a b) (dTab c d) = decide (a = c ∧ b = d) := by
  have e : ∀ x y : List Bool, (B x == B y) = decide (x = y) := fun x y => by
    by_cases h : x = y
    · subst h; simp
    · rw [decide_eq_false h]
      exact beq_eq_false_iff_ne.mpr fun z => h (B_inj z)
  have e2 : PyData.eqv (dTab a b) (dTab c d) = ((B a == B c) && ((B b == B d) && true)) := by simp only [dTab, PyData.eqv, PyData.eqvAll]
  rw [e2, e, e, Bool.and_true, Bool.decide_and]
theorem shaped_tab (h t : List Bool) : SeqAt.shaped (dTab h t) = true := by
  have l : ∀ x : List Bool, PyData.canLay0 (.str (B x)) = true := fun x => by
    simp only [PyData.canLay0, PyData.strOk]
    rw [Array.all_eq_true_iff_forall_mem]
    intro c hc
    have hc2 : c ∈ (B x).cps.toList := Array.mem_toList_iff.mpr hc
    rw [B_cps] at hc2
    obtain ⟨b, _, rfl⟩ := List.mem_map.mp hc2
    cases b <;> decide
  show (PyData.canLay0 (dTab h t) && decide (PyData.depth (dTab h t) ≤ 64)) = true
  rw [Bool.and_eq_true]
  refine ⟨?_, decide_eq_true ?_⟩
  · simp only [dTab, PyData.canLay0, PyData.canLayAll0, Bool.and_eq_true]
    exact ⟨l h, l t, trivial⟩
  · simp [dTab, PyData.depth, PyData.depthAll]
end G1
/-! what draws come from: a list of two lists and a count, changed by each draw; all else stands -/
namespace G1
open PySem PySem.Spec PyProof.Rows L2

/-- the well at w, its great cells at g -/
def WellAt (w g : Addr) (H : Hp) : Prop := ∃ (c : Addr) (gs cs : List Int) (k : Int), w ≠ g ∧ c ≠ g ∧ c ≠ w ∧ H w = some (.lst [.ref g, .ref c, .int k]) ∧
  H g = some (.lst (gs.map V.int)) ∧ H c = some (.lst (cs.map V.int)) ∧ 0 < cs.length ∧ gs.length ≤ 1000 ∧ cs.length ≤ 1000
/-- H' is as H but for the well -/
def Go (w g : Addr) (H H' : Hp) : Prop := ∀ a o, a ≠ w → a ≠ g → H a = some o → H' a = some o
theorem Go.refl {w g : Addr} {H : Hp} : Go w g H H := fun _ _ _ _ h => h
theorem Go.trans {w g : Addr} {H H1 H2 : Hp} (a : Go w g H H1) (b : Go w g H1 H2) : Go w g H H2 := fun x o h1 h2 h => b x o h1 h2 (a x o h1 h2 h)
theorem Go.of {w g : Addr} {H H' : Hp} (h : Same H H') : Go w g H H' := fun x o _ _ e => h x o e
/-- o stands at a, apart from the well -/
structure At (w g : Addr) (H : Hp) (a : Addr) (o : HO) : Prop where
  nw : a ≠ w
  ng : a ≠ g
  at_ : H a = some o
theorem At.go {w g : Addr} {H H' : Hp} {a : Addr} {o : HO} (x : At w g H a o) (s : Go w g H H') : At w g H' a o := ⟨x.nw, x.ng, s a o x.nw x.ng x.at_⟩
theorem same_new {H : Hp} {p : Addr} {o : HO} (h : H p = none) : Same H (upd H p o) := fun b x e => by
  rw [upd_ne (ne_of_none e h)]
  exact e
theorem Same.rfl' {H : Hp} : Same H H := fun _ _ h => h
theorem WellAt.same {w g : Addr} {H H' : Hp} (W : WellAt w g H) (s : Same H H') : WellAt w g H' := by
  obtain ⟨c, gs, cs, k, h1, h2, h3, h4, h5, h6, h7⟩ := W
  exact ⟨c, gs, cs, k, h1, h2, h3, s _ _ h4, s _ _ h5, s _ _ h6, h7⟩
theorem WellAt.fresh {w g p : Addr} {H : Hp} (W : WellAt w g H) (h : H p = none) : p ≠ w ∧ p ≠ g := by
  obtain ⟨c, gs, cs, k, h1, h2, h3, h4, h5, h6, h7⟩ := W
  exact ⟨(ne_of_none h4 h).symm, (ne_of_none h5 h).symm⟩
/-- a new object beside the well -/
theorem new_w {w g : Addr} {H : Hp} {o : HO} {Q : VK} (W : WellAt w g H)
    (h : ∀ p H', H p = none → Same H H' → WellAt w g H' → At w g H' p o → Q (.ref p) H') : ∀ p, H p = none → Q (.ref p) (upd H p o) := fun p hp =>
  h p _ hp (same_new hp) (W.same (same_new hp)) ⟨(W.fresh hp).1, (W.fresh hp).2, upd_same⟩
/-- a new object -/
theorem new_s {H : Hp} {o : HO} {Q : VK} (h : ∀ p H', H p = none → Same H H' → H' p = some o → Q (.ref p) H') : ∀ p, H p = none → Q (.ref p) (upd H p o) :=
  fun p hp => h p _ hp (same_new hp) upd_same
theorem new_of {w g p : Addr} {H H' : Hp} {o : HO} (W : WellAt w g H) (hp : H p = none) (e : upd H p o = H') : Same H H' ∧ WellAt w g H' ∧ At w g H' p o := by
  subst e
  exact ⟨same_new hp, W.same (same_new hp), (W.fresh hp).1, (W.fresh hp).2, upd_same⟩
theorem new_of0 {p : Addr} {H H' : Hp} {o : HO} (hp : H p = none) (e : upd H p o = H') : Same H H' ∧ H' p = some o := by
  subst e
  exact ⟨same_new hp, upd_same⟩
theorem same_mut {H H1 : Hp} {D : Addr} {o : HO} (s : Same H H1) (h : H D = none) : Same H (upd H1 D o) := fun b x e => by
  rw [upd_ne (ne_of_none e h)]
  exact s _ _ e
theorem szl {n : Nat} (h : n ≤ 1000) : n ≤ sizeLine := Nat.le_trans h (by decide)
theorem At.sqL {K : PySem.W.Frag} {w g : Addr} {H : Hp} {a : Addr} {xs : List V} (x : At w g H a (.lst xs)) : SqL K H a xs := .inl (.inl x.at_)
theorem At.sqT {K : PySem.W.Frag} {w g : Addr} {H : Hp} {a : Addr} {xs : List V} (x : At w g H a (.tup xs)) : SqT K H a xs := .inl (.inl x.at_)
theorem sqL_of {K : PySem.W.Frag} {H : Hp} {a : Addr} {xs : List V} (h : H a = some (.lst xs)) : SqL K H a xs := .inl (.inl h)
theorem sqT_of {K : PySem.W.Frag} {H : Hp} {a : Addr} {xs : List V} (h : H a = some (.tup xs)) : SqT K H a xs := .inl (.inl h)
/-- a tuple stands apart from the well -/
theorem WellAt.tup {w g a : Addr} {H : Hp} {xs : List V} (W : WellAt w g H) (h : H a = some (.tup xs)) : At w g H a (.tup xs) := by
  obtain ⟨c, gs, cs, k, h1, h2, h3, h4, h5, h6, h7⟩ := W
  exact ⟨ne_of h h4 (by intro z; cases z), ne_of h h5 (by intro z; cases z), h⟩
end G1
namespace G1
open PySem PySem.Spec PyProof.Rows L2
theorem ifT {A B : Prop} (h : A) : if true = true then A else B := by rw [if_pos rfl]; exact h
theorem ifF {A B : Prop} (h : B) : if false = true then A else B := by rw [if_neg Bool.false_ne_true]; exact h
theorem ifD {c : Prop} [Decidable c] {A B : Prop} (h1 : c → A) (h2 : ¬ c → B) : if decide c = true then A else B := by
  by_cases h : c
  · rw [decide_eq_true h]
    exact ifT (h1 h)
  · rw [decide_eq_false h]
    exact ifF (h2 h)
theorem ifDn {c : Prop} [Decidable c] {A B : Prop} (h1 : ¬ c → A) (h2 : c → B) : if (!decide c) = true then A else B := by
  by_cases h : c
  · rw [decide_eq_true h]
    exact ifF (h2 h)
  · rw [decide_eq_false h]
    exact ifT (h1 h)
theorem ifB {b : Bool} {A B : Prop} (h1 : b = true → A) (h2 : b = false → B) : if b = true then A else B := by
  cases b with
  | true => exact ifT (h1 rfl)
  | false => exact ifF (h2 rfl)
end G1
namespace G1
open PySem PySem.Spec PyProof.Rows L2
theorem dpAll_ints {K : PySem.W.Frag} {H : Hp} : ∀ ns : List Int, DpAll K H (ns.map V.int) (ns.map PyData.int)
  | [] => .nil
  | n :: ns => .cons (.int n) (dpAll_ints ns)
theorem lay_ints : ∀ ns : List Int, PyData.canLayAll0 (ns.map PyData.int) = true
  | [] => by simp [PyData.canLayAll0]
  | n :: ns => by simp [PyData.canLayAll0, PyData.canLay0, lay_ints ns]
theorem depth_ints : ∀ ns : List Int, PyData.depthAll (ns.map PyData.int) = 0
  | [] => by simp [PyData.depthAll]
  | n :: ns => by simp [PyData.depthAll, PyData.depth, depth_ints ns]
theorem shaped_ints (ns : List Int) : SeqAt.shaped (.list (ns.map PyData.int)) = true := by
  show (PyData.canLay0 (.list (ns.map PyData.int)) && decide (PyData.depth (.list (ns.map PyData.int)) ≤ 64)) = true
  rw [Bool.and_eq_true]
  refine ⟨by simp only [PyData.canLay0]; exact lay_ints ns, decide_eq_true ?_⟩
  simp only [PyData.depth, depth_ints]
  omega
theorem eqv_ints_nil (ns : List Int) : PyData.eqv (.list (ns.map PyData.int)) (.list []) = decide (ns = []) := by
  cases ns with
  | nil => simp [PyData.eqv, PyData.eqvAll]
  | cons n ns => simp [PyData.eqv, PyData.eqvAll]
end G1

namespace G1
open PySem PySem.Spec PyProof.Rows L2
theorem ix_zero {n : Nat} (h : 0 < n) : ixN n 0 = some 0 := by
  unfold ixN
  rw [if_pos (by omega), if_pos (by omega)]
  rfl
theorem ix_at {n j : Nat} {i : Int} (e : i = (j : Int)) (h : j < n) : ixN n i = some j := by
  subst e
  unfold ixN
  rw [if_pos (by omega), if_pos (by omega)]
  rfl
end G1

namespace G1
open PySem PySem.Spec PyProof.Rows L2
theorem seq_zero (n : Nat) : seqIndex? 0 (n + 1) = some 0 := by
  unfold seqIndex?
  simp
end G1

namespace G1
open PySem PySem.Spec PyProof.Rows L2
section
variable {K : PySem.W.Frag} {H : Hp} {Q : VK} {p : Addr} {xs : List V} {v : V}
theorem go_ixL {R : V → Prop} {j : Nat} (hs : H p = some (.lst xs)) (hj : xs[j]? = some v) (q : R v) :
    ∃ p' xs' i' v', V.ref p = V.ref p' ∧ V.int (j : Int) = V.int i' ∧ SqL K H p' xs' ∧ atI xs' i' = some v' ∧ R v' :=
  ⟨p, xs, _, v, rfl, rfl, sqL_of hs, atI_nat hj, q⟩
theorem go_ixLi {R : V → Prop} {i : Int} {j : Nat} (hs : H p = some (.lst xs)) (e : i = (j : Int)) (hj : xs[j]? = some v) (q : R v) :
    ∃ p' xs' i' v', V.ref p = V.ref p' ∧ V.int i = V.int i' ∧ SqL K H p' xs' ∧ atI xs' i' = some v' ∧ R v' := by
  subst e
  exact ⟨p, xs, _, v, rfl, rfl, sqL_of hs, atI_nat hj, q⟩
theorem go_ixT {R : V → Prop} {j : Nat} (hs : H p = some (.tup xs)) (hj : xs[j]? = some v) (q : R v) :
    ∃ p' xs' i' v', V.ref p = V.ref p' ∧ V.int (j : Int) = V.int i' ∧ SqT K H p' xs' ∧ atI xs' i' = some v' ∧ R v' :=
  ⟨p, xs, _, v, rfl, rfl, sqT_of hs, atI_nat hj, q⟩
theorem go_ixLast {R : V → Prop} (hs : H p = some (.lst xs)) (hj : xs[xs.length - 1]? = some v) (q : R v) :
    ∃ p' xs' i' v', V.ref p = V.ref p' ∧ V.int (-1) = V.int i' ∧ SqL K H p' xs' ∧ atI xs' i' = some v' ∧ R v' := by
  refine ⟨p, xs, _, v, rfl, rfl, sqL_of hs, ?_, q⟩
  have hl : 0 < xs.length := by
    cases xs with
    | nil => simp at hj
    | cons a l => simp
  unfold atI ixN
  rw [if_neg (by omega), if_pos (by omega)]
  show xs[(-1 + (xs.length : Int)).toNat]? = _
  rw [show (-1 + (xs.length : Int)).toNat = xs.length - 1 by omega]
  exact hj
theorem go_tup {R : List V → Prop} (hs : H p = some (.tup xs)) (q : R xs) : ∃ a ys, V.ref p = V.ref a ∧ SqT K H a ys ∧ R ys := ⟨p, xs, rfl, sqT_of hs, q⟩
theorem go_unl {R : List V → Prop} (hs : H p = some (.lst xs)) (q : R xs) : ∃ a ys, V.ref p = V.ref a ∧ SqL K H a ys ∧ R ys := ⟨p, xs, rfl, sqL_of hs, q⟩
theorem go_lenL {R : List V → Prop} (hs : H p = some (.lst xs)) (q : R xs) : ∃ p' ys, [V.ref p] = [V.ref p'] ∧ (SqL K H p' ys ∨ SqT K H p' ys) ∧ R ys :=
  ⟨p, xs, rfl, Or.inl (sqL_of hs), q⟩
end
end G1

namespace G1
open PySem PySem.Spec PyProof.Rows L2
section
variable {l m : List Bool}
/-- len of a text of two signs -/
theorem go_lenS {R : Str → Prop} (h : l.length ≤ 1000000) (q : R (B l)) : ∃ z, [V.str (B l)] = [V.str z] ∧ z.length ≤ sizeLine ∧ R z :=
  ⟨B l, rfl, by rw [B_len]; exact szM h, q⟩
theorem go_addS {R : Str → Str → Prop} (h : l.length + m.length ≤ 1000000) (q : R (B l) (B m)) : ∃ i j, V.str (B l) = V.str i ∧ V.str (B m) = V.str j ∧ i.length + j.length ≤ sizeLine ∧ R i j :=
  ⟨B l, B m, rfl, rfl, by rw [B_len, B_len]; exact szM h, q⟩
theorem go_mulS {R : Str → Int → Prop} {n : Int} (h : 0 ≤ n ∧ n < 2 ^ 30) (h2 : l.length * n.toNat ≤ 1000000) (q : R (B l) n) :
    ∃ z k, V.str (B l) = V.str z ∧ V.int n = V.int k ∧ 0 ≤ k ∧ k < 2 ^ 30 ∧ z.length * k.toNat ≤ 1000000 ∧ R z k :=
  ⟨B l, n, rfl, rfl, h.1, h.2, by rw [B_len]; exact h2, q⟩
theorem go_sl {R : Str → Prop} (h : l.length ≤ 1000000) (q : R (B l)) : ∃ z, V.str (B l) = V.str z ∧ z.length ≤ sizeLine ∧ R z :=
  ⟨B l, rfl, by rw [B_len]; exact szM h, q⟩
theorem go_ixS {R : Nat → Prop} {i : Int} {k : Nat} {b : Bool} (hi : i = (k : Int)) (h : l.length ≤ 1000000) (hk : l[k]? = some b) (q : R (cB b)) :
    ∃ z i' c, V.str (B l) = V.str z ∧ V.int i = V.int i' ∧ z.length ≤ sizeLine ∧ atI z.cps.toList i' = some c ∧ R c :=
  ⟨B l, i, _, rfl, rfl, by rw [B_len]; exact szM h, B_at l hi hk, q⟩
theorem go_ixSn {R : Nat → Prop} {i : Int} {k : Nat} {b : Bool} (hi : i = -1 - (k : Int)) (h : l.length ≤ 1000000) (hl : k < l.length) (hk : l[l.length - 1 - k]? = some b) (q : R (cB b)) :
    ∃ z i' c, V.str (B l) = V.str z ∧ V.int i = V.int i' ∧ z.length ≤ sizeLine ∧ atI z.cps.toList i' = some c ∧ R c :=
  ⟨B l, i, _, rfl, rfl, by rw [B_len]; exact szM h, B_atNeg l hi hl hk, q⟩
end
end G1
namespace G1
open PySem PySem.Spec PyProof.Rows L2
theorem log_small {i : Int} (h0 : 0 ≤ i) (h1 : i < 2 ^ 64) : i.natAbs.log2 < 1920 := by
  have h : i.natAbs < 2 ^ 64 := by omega
  by_cases hz : i.natAbs = 0
  · rw [hz]; decide
  · exact Nat.lt_of_lt_of_le ((Nat.log2_lt hz).mpr h) (by decide)
theorem go_bit {R : Int → Prop} {i : Int} (h : 0 ≤ i ∧ i < 2) (q : R i) : ∃ k, [V.int i] = [V.int k] ∧ k.natAbs.log2 < 1920 ∧ R k :=
  ⟨i, rfl, log_small h.1 (by omega), q⟩
theorem flat_one : ∀ bs : List Bool, (bs.map fun b => [b]).flatten = bs
  | [] => rfl
  | b :: bs => by rw [List.map_cons, List.flatten_cons, flat_one bs]; rfl
theorem len_one : ∀ bs : List Bool, ((bs.map fun b => B [b]).map (·.length)).sum = bs.length
  | [] => rfl
  | b :: bs => by
    rw [List.map_cons, List.map_cons, List.sum_cons, len_one bs, B_len, List.length_cons, List.length_cons, List.length_nil]
    omega
theorem go_join {K : PySem.W.Frag} {H : Hp} {R : Str → List Str → Prop} {D : Addr} {bs : List Bool} (hD : H D = some (.lst (bs.map fun b => V.str (B [b])))) (hl : bs.length ≤ 1000000) (q : R (B []) (bs.map fun b => B [b])) :
    ∃ a p ys, V.str (B []) = V.str a ∧ [V.ref D] = [V.ref p] ∧ (SqL K H p (List.map V.str ys) ∨ SqT K H p (List.map V.str ys)) ∧ (List.map (fun x => x.length) ys).sum + ys.length * a.length ≤ 16777216 ∧ R a ys := by
  refine ⟨B [], D, bs.map fun b => B [b], rfl, rfl, Or.inl ?_, ?_, q⟩
  · rw [List.map_map]
    exact sqL_of hD
  · rw [len_one, B_len]
    simp
    omega
theorem joined (bs : List Bool) : Txt.join (B []) (bs.map fun b => B [b]) = B bs := by
  have e : (bs.map fun b => B [b]) = (bs.map fun b => [b]).map B := by rw [List.map_map]; rfl
  rw [e, join_nil, flat_one]
end G1
namespace G1
open PySem PySem.Spec PyProof.Rows L2
theorem go_in {K : PySem.W.Frag} {H : Hp} {R : Bool → Prop} {p : Addr} {x : Int} {ys : List Int} {xs : List V} (hs : H p = some (.tup xs)) (e : xs = ys.map V.int) (q : ∀ b, R b) :
    ∃ p' zs, V.ref p = V.ref p' ∧ (SqL K H p' zs ∨ SqT K H p' zs) ∧ flatV (.int x) = true ∧ zs.all flatV = true ∧ R (inV (.int x) zs) := by
  refine ⟨p, xs, rfl, Or.inr (sqT_of hs), rfl, ?_, q _⟩
  subst e
  rw [List.all_eq_true]
  intro v hv
  obtain ⟨i, _, rfl⟩ := List.mem_map.mp hv
  rfl
theorem mul_le {a b n m : Nat} (h1 : a ≤ n) (h2 : b ≤ m) (h : n * m ≤ 1000000) : a * b ≤ 1000000 := Nat.le_trans (Nat.mul_le_mul h1 h2) h
end G1
/-! texts of any signs, as lists of codes -/
namespace G1
open PySem PySem.Spec PyProof.Rows L2
def C (l : List Nat) : Str := SX.S l
theorem C_inj {l m : List Nat} (h : C l = C m) : l = m := SX.S_inj h
theorem C_dec (l m : List Nat) : decide (V.str (C l) = V.str (C m)) = decide (l = m) := by
  by_cases h : l = m
  · rw [h, decide_eq_true rfl, decide_eq_true rfl]
  · rw [decide_eq_false h, decide_eq_false fun e => h (C_inj (V.str.inj e))]
theorem C_len (l : List Nat) : (C l).length = l.length := SX.S_len l
theorem C_cps (l : List Nat) : (C l).cps.toList = l := rfl
theorem C_app (l m : List Nat) : C l ++ C m = C (l ++ m) := SX.S_cat l m
theorem C_one (c : Nat) : (⟨#[c]⟩ : Str) = C [c] := rfl
theorem C_cut (l : List Nat) (lo hi : Option Int) : cutS (C l) lo hi = C ((l.drop (HT.sIx l.length 0 lo)).take (HT.sIx l.length l.length hi - HT.sIx l.length 0 lo)) := by
  unfold cutS C
  rw [SX.S_len]
theorem C_to (l : List Nat) {j : Int} (h : 0 ≤ j) : cutS (C l) none (some j) = C (l.take j.toNat) := by
  rw [C_cut, sIx_of _ _ h]
  show C ((l.drop 0).take (min j.toNat l.length - 0)) = _
  rw [List.drop_zero, Nat.sub_zero, ← List.take_eq_take_min]
theorem C_from (l : List Nat) {i : Int} (h : 0 ≤ i) : cutS (C l) (some i) none = C (l.drop i.toNat) := by
  rw [C_cut, sIx_of _ _ h]
  show C ((l.drop (min i.toNat l.length)).take (l.length - min i.toNat l.length)) = _
  rw [List.take_of_length_le (by rw [List.length_drop]; omega)]
  by_cases hi : i.toNat ≤ l.length
  · rw [Nat.min_eq_left hi]
  · rw [Nat.min_eq_right (by omega), List.drop_length, List.drop_of_length_le (by omega)]
theorem C_mid (l : List Nat) {i j : Int} (h : 0 ≤ i) (hj : 0 ≤ j) : cutS (C l) (some i) (some j) = C ((l.take j.toNat).drop i.toNat) := by
  rw [C_cut, sIx_of _ _ h, sIx_of _ _ hj]
  congr 1
  apply List.ext_getElem?
  intro k
  rw [List.getElem?_take, List.getElem?_drop, List.getElem?_drop, List.getElem?_take]
  by_cases hi : i.toNat ≤ l.length
  · rw [Nat.min_eq_left hi]
    by_cases hj2 : j.toNat ≤ l.length
    · rw [Nat.min_eq_left hj2]
      by_cases h3 : k < j.toNat - i.toNat
      · rw [if_pos h3, if_pos (by omega)]
      · rw [if_neg h3, if_neg (by omega)]
    · rw [Nat.min_eq_right (by omega)]
      by_cases h3 : k < l.length - i.toNat
      · rw [if_pos h3, if_pos (by omega)]
      · rw [if_neg h3]
        split
        · exact (List.getElem?_eq_none (by omega)).symm
        · rfl
  · have hm : min i.toNat l.length = l.length := Nat.min_eq_right (Nat.le_of_lt (Nat.lt_of_not_le hi))
    rw [hm, List.getElem?_eq_none (by omega), List.getElem?_eq_none (by omega)]
    split <;> split <;> rfl
theorem C_at (l : List Nat) {i : Int} {k : Nat} {b : Nat} (hi : i = (k : Int)) (h : l[k]? = some b) : atI (C l).cps.toList i = some b := by
  subst hi
  exact atI_nat h
def repN (n : Nat) (l : List Nat) : List Nat := (List.replicate n l).flatten
theorem repN_zero (l : List Nat) : repN 0 l = [] := rfl
theorem repN_succ (n : Nat) (l : List Nat) : repN (n + 1) l = l ++ repN n l := by
  unfold repN
  rw [List.replicate_succ, List.flatten_cons]
theorem repN_length (n : Nat) (l : List Nat) : (repN n l).length = n * l.length := by
  induction n with
  | zero => rw [repN_zero, Nat.zero_mul]; rfl
  | succ n ih => rw [repN_succ, List.length_append, ih, Nat.succ_mul, Nat.add_comm]
theorem repN_get (n : Nat) (l : List Nat) (i : Nat) (h : i < n * l.length) : (repN n l)[i]? = l[i % l.length]? := by
  induction n generalizing i with
  | zero => rw [Nat.zero_mul] at h; omega
  | succ n ih =>
    rw [repN_succ]
    by_cases hi : i < l.length
    · rw [List.getElem?_append_left hi, Nat.mod_eq_of_lt hi]
    · have h1 : l.length ≤ i := by omega
      rw [List.getElem?_append_right h1, ih (i - l.length) (by rw [Nat.succ_mul] at h; omega), ← Nat.mod_eq_sub_mod h1]
theorem C_mul (l : List Nat) {n : Int} (h : 0 ≤ n) : Txt.mul (C l) n = C (repN n.toNat l) := by
  unfold Txt.mul
  by_cases h1 : n < 1
  · rw [if_pos h1, show n.toNat = 0 by omega, repN_zero]
    rfl
  · rw [if_neg h1]
    by_cases h2 : (n == 1 || (C l).length == 0) = true
    · rw [if_pos h2]
      rw [Bool.or_eq_true, beq_iff_eq, beq_iff_eq, C_len] at h2
      rcases h2 with h2 | h2
      · subst h2
        show C l = C (repN 1 l)
        rw [repN_succ, repN_zero, List.append_nil]
      · rw [List.length_eq_zero_iff] at h2
        subst h2
        congr 1
        have := repN_length n.toNat []
        rw [List.length_nil, Nat.mul_zero, List.length_eq_zero_iff] at this
        exact this.symm
    · rw [if_neg h2]
      unfold C repN
      refine TL.ext_tl ?_
      show (List.foldl (· ++ ·) #[] (List.replicate n.toNat (SX.S l).cps)).toList = _
      rw [foldl_app]
      simp [TL.tl]
theorem joinC (ls : List (List Nat)) : Txt.join (B []) (ls.map C) = C ls.flatten := by
  show Txt.join (SX.S []) (ls.map SX.S) = _
  rw [SX.join_S]
  unfold C
  congr 1
  have key : ∀ ms : List (List Nat), TL.joinL [] ms = ms.flatten := by
    intro ms
    induction ms with
    | nil => rfl
    | cons m ms ih =>
      cases ms with
      | nil => simp [TL.joinL]
      | cons k ks =>
        rw [List.flatten_cons, ← ih]
        simp [TL.joinL]
  exact key _
theorem C_dig (i : Nat) (h : i < 10) : (Str.ofString (toString (i : Int))) = C [48 + i] := by
  have : i = 0 ∨ i = 1 ∨ i = 2 ∨ i = 3 ∨ i = 4 ∨ i = 5 ∨ i = 6 ∨ i = 7 ∨ i = 8 ∨ i = 9 := by omega
  rcases this with rfl | rfl | rfl | rfl | rfl | rfl | rfl | rfl | rfl | rfl <;> decide +kernel
/-- join of single signs -/
theorem go_joinC {K : PySem.W.Frag} {H : Hp} {R : Str → List Str → Prop} {D : Addr} {bs : List Nat} (hD : H D = some (.lst (bs.map fun b => V.str (C [b])))) (hl : bs.length ≤ 1000000) (q : R (B []) (bs.map fun b => C [b])) :
    ∃ a p ys, V.str (B []) = V.str a ∧ [V.ref D] = [V.ref p] ∧ (SqL K H p (List.map V.str ys) ∨ SqT K H p (List.map V.str ys)) ∧ (List.map (fun x => x.length) ys).sum + ys.length * a.length ≤ 16777216 ∧ R a ys := by
  have ln : ∀ bs : List Nat, ((bs.map fun b => C [b]).map (·.length)).sum = bs.length := by
    intro bs
    induction bs with
    | nil => rfl
    | cons b bs ih =>
      rw [List.map_cons, List.map_cons, List.sum_cons, ih, C_len, List.length_cons, List.length_cons, List.length_nil]
      omega
  refine ⟨B [], D, bs.map fun b => C [b], rfl, rfl, Or.inl ?_, ?_, q⟩
  · rw [List.map_map]
    exact sqL_of hD
  · rw [ln, B_len]
    simp
    omega
theorem joinedC (bs : List Nat) : Txt.join (B []) (bs.map fun b => C [b]) = C bs := by
  have e : (bs.map fun b => C [b]) = (bs.map fun b => [b]).map C := by rw [List.map_map]; rfl
  rw [e, joinC]
  congr 1
  induction bs with
  | nil => rfl
  | cons b bs ih => rw [List.map_cons, List.flatten_cons, ih (by rw [List.map_map]; rfl)]; rfl
theorem go_lenT {K : PySem.W.Frag} {H : Hp} {p : Addr} {xs : List V} {R : List V → Prop} (hs : H p = some (.tup xs)) (q : R xs) : ∃ p' ys, [V.ref p] = [V.ref p'] ∧ (SqL K H p' ys ∨ SqT K H p' ys) ∧ R ys :=
  ⟨p, xs, rfl, Or.inr (sqT_of hs), q⟩
section
variable {l m : List Nat}
theorem goC_sl {R : Str → Prop} (h : l.length ≤ 1000000) (q : R (C l)) : ∃ z, V.str (C l) = V.str z ∧ z.length ≤ sizeLine ∧ R z :=
  ⟨C l, rfl, by rw [C_len]; exact szM h, q⟩
theorem goC_mulS {R : Str → Int → Prop} {n : Int} (h : 0 ≤ n ∧ n < 2 ^ 30) (h2 : l.length * n.toNat ≤ 1000000) (q : R (C l) n) :
    ∃ z k, V.str (C l) = V.str z ∧ V.int n = V.int k ∧ 0 ≤ k ∧ k < 2 ^ 30 ∧ z.length * k.toNat ≤ 1000000 ∧ R z k :=
  ⟨C l, n, rfl, rfl, h.1, h.2, by rw [C_len]; exact h2, q⟩
theorem goC_ixS {R : Nat → Prop} {i : Int} {k : Nat} {b : Nat} (hi : i = (k : Int)) (h : l.length ≤ 1000000) (hk : l[k]? = some b) (q : R b) :
    ∃ z i' c, V.str (C l) = V.str z ∧ V.int i = V.int i' ∧ z.length ≤ sizeLine ∧ atI z.cps.toList i' = some c ∧ R c :=
  ⟨C l, i, _, rfl, rfl, by rw [C_len]; exact szM h, C_at l hi hk, q⟩
end
end G1
/-! for i, c in enumerate(text) -/
namespace G1
open PySem PySem.Spec PyProof.Rows L2
/-- the signs of x, each in a new pair with its place -/
def Ites (x : Str) : It :=
  ⟨fun i _ => i < x.cps.size, fun i H v H' => ∃ T c, v = .ref T ∧ H T = none ∧ x.cps[i]? = some c ∧ H' = upd H T (.tup [.int (i : Nat), .str ⟨#[c]⟩]), fun i _ => i = x.cps.size⟩
theorem turn_enumS {P : Program} {w : World} {K : PySem.W.Frag} {elts : List Expr} {kk : Nat} {tpos : Pos} (x : Str) (t : Tok) (e it : Addr) (hne : e ≠ it) :
    Turn P w K (.Tuple elts kk tpos) (Ites x) [e, it] e (fun i h => (∃ old, IsEnum h e it (0 + (i : Int)) old) ∧ h.IsStrIter it (strIterType x) x t i) where
  mem := by simp
  obj := fun i h st b hb => by
    obtain ⟨⟨old, he⟩, ⟨o, ho, hc, hd⟩⟩ := st
    rcases (by simpa using hb : b = e ∨ b = it) with rfl | rfl
    · exact ⟨_, he, fun v z => nomatch z⟩
    · refine ⟨o, ho, fun v z => ?_⟩
      rw [hd] at z
      cases z
  keep := fun i h h' st k => by
    obtain ⟨⟨old, he⟩, o, ho, r⟩ := st
    exact ⟨⟨old, k e (by simp) _ he⟩, o, k it (by simp) o ho, r⟩
  item := by
    intro X hX hW hKK calm i pins s σ H E I away st hg
    subst hX hW hKK
    have D := Draws.text (prog := X.prog) (w := X.w) (A := X.A.in1) (I.ok.hd calm) it x t
    have W := GoesN.enumFrom (elts := elts) (x1 := kk) (pos := tpos) 0 D e hne (by simpa using hne) (by simp)
    refine W.goes i s _ E hg st fun v h' tk hY st' hk htk => ?_
    obtain ⟨T, t', y, ev, hT, ⟨c, u, hcx, ey⟩, hO⟩ := hY
    subst ev ey
    obtain ⟨o, ho, hoc, n, hod⟩ := hO
    have new : ObjOk X.prog X.w (upd H T (.tup [.int (i : Nat), .str ⟨#[c]⟩])) h' T (.tup [.int (i : Nat), .str ⟨#[c]⟩]) :=
      ⟨by show 2 ≤ sizeLine; decide, [.int (0 + (i : Int)) t', .str ⟨#[c]⟩ u], .cons ⟨t', by rw [Int.zero_add]⟩ (.cons ⟨u, rfl⟩ .nil), ⟨o, ho, hoc, n, hod⟩⟩
    have I1 : Inv X pins σ (upd H T (.tup [.int (i : Nat), .str ⟨#[c]⟩])) { s with heap := h', toks := tk } :=
      I.turnedNew (ch := [e, it]) hk away hT new
    refine ⟨.ref T, _, I1, rfl, ⟨T, c, rfl, I.hok.fresh hT, hcx, rfl⟩, st', fun b hb => ?_⟩
    have hb' : b < s.heap.objs.size := by
      obtain ⟨⟨old, he⟩, o2, ho2, _⟩ := st
      rcases (by simpa using hb : b = e ∨ b = it) with rfl | rfl
      · exact Heap.lt_size he
      · exact Heap.lt_size ho2
    rw [upd_ne (Nat.ne_of_lt (Nat.lt_of_lt_of_le hb' hT))]
    exact (away b hb).1
  done := by
    intro X hX hW hKK calm i pins s σ H E I away st hg
    subst hX hW hKK
    replace hg : i = x.cps.size := hg
    subst hg
    have D := Draws.text (prog := X.prog) (w := X.w) (A := X.A.in1) (I.ok.hd calm) it x t
    have W := GoesN.enumFrom (elts := elts) (x1 := kk) (pos := tpos) 0 D e hne (by simpa using hne) (by simp)
    refine W.stops s _ E st fun h' tk hk htk => ?_
    exact I.turnedL (t' := tk) (ch := [e, it]) hk away
  self := fun A i s Q E st q => wpAny_pyIter_enum st.1.choose_spec q
def iEnumS (ta : TA) : TI := fun σ H R => ta σ H fun vs H1 => ∃ x, vs = [.str x] ∧ R (Ites x) H1
theorem pi_enumS {X : Cx} {e : Expr} {ta : TA} {p pos tpos : Pos} {elts : List Expr} {kk : Nat} (hg : Gl X "enumerate") (hm : X.mg "enumerate" = none) (ha : PA X [e] ta) (hs : starEach [e] X.env = [(false, eval e X.env)] := by rfl) :
    PI X (.Tuple elts kk tpos) (.Call (.Name "enumerate" p) [e] [] pos) (iEnumS ta) := by
  refine ⟨fun pn s σ H R Iv told => Call_ (ld_blt Iv hg hm boot_enumerate (PyProof.Rows.callWith_type1 (thn (ha.run pos pn s σ H _ Iv told) ?_) hs rfl))⟩
  rintro us s1 ⟨vs, H1, I1, r1, x, rfl, q⟩
  cases r1 with
  | cons r rr =>
    cases rr
    obtain ⟨t, rfl⟩ := r
    refine call_enumerate_str fun h' he hit hsz hk => wpAny_pyIter_enum he ?_
    refine ⟨s1.heap.objs.size + 1, [s1.heap.objs.size + 1, s1.heap.objs.size], _, _, H1, rfl, I1.kept (t' := s1.toks) hk, turn_enumS x t (s1.heap.objs.size + 1) s1.heap.objs.size (Nat.succ_ne_self _), ⟨⟨.none, he⟩, hit⟩, fun b hb => ?_, q⟩
    have up : s1.heap.objs.size ≤ b := by
      rcases (by simpa using hb : b = s1.heap.objs.size + 1 ∨ b = s1.heap.objs.size) with rfl | rfl
      · exact Nat.le_succ _
      · exact Nat.le_refl _
    exact I1.fpOk up (I1.hok.fresh up)
theorem lc_enumS {x : Str} {g : TG} {tt : TT} {te : TE} {vs : List Nat} {σ : L2.St} {H1 : Hp} {D : Addr} {Qd : Hp → Prop} (Pv : Nat → Hp → Prop) (h0 : Pv 0 (upd H1 D (.lst [])))
    (hs : ∀ i c T H, x.cps[i]? = some c → Pv i H → H T = none → g (.ref T) (wipe σ vs) (upd H T (.tup [.int (i : Nat), .str ⟨#[c]⟩])) fun σ2 H2 => wipe σ2 vs = wipe σ vs ∧ tt σ2 H2 fun b H3 =>
      if b = true then te σ2 H3 fun y H4 => ∃ acc, H4 D = some (.lst acc) ∧ acc.length < sizeLine ∧ Pv (i + 1) (upd H4 D (.lst (acc ++ [y]))) else Pv (i + 1) H3) (hd : ∀ H, Pv x.cps.size H → Qd H) :
    ∃ W : Nat → Nat → Hp → Prop, (∃ m, W 0 m (upd H1 D (.lst []))) ∧ ∀ i m H, W i m H →
      ((Ites x).stop i H ∧ Qd H) ∨ ((Ites x).go i H ∧ ∃ Nx : Hp → Prop, (∀ H', Nx H' → ∃ m', m' < m ∧ W (i + 1) m' H') ∧ ∀ v H', (Ites x).yld i H v H' → g v (wipe σ vs) H' fun σ2 H2 => wipe σ2 vs = wipe σ vs ∧ tt σ2 H2 fun b H3 =>
        if b = true then te σ2 H3 fun y H4 => ∃ acc, H4 D = some (.lst acc) ∧ acc.length < sizeLine ∧ Nx (upd H4 D (.lst (acc ++ [y]))) else Nx H3) := by
  refine ⟨fun i m H => m = x.cps.size - i ∧ i ≤ x.cps.size ∧ Pv i H, ⟨x.cps.size, by simp, Nat.zero_le _, h0⟩, ?_⟩
  rintro i m H ⟨rfl, hi, p⟩
  by_cases hlt : i < x.cps.size
  · refine .inr ⟨hlt, Pv (i + 1), fun H' p' => ⟨x.cps.size - (i + 1), by omega, rfl, hlt, p'⟩, fun v H' y => ?_⟩
    obtain ⟨T, c, rfl, hT, hc, rfl⟩ := y
    exact hs i c T H hc p hT
  · have e : i = x.cps.size := by omega
    subst e
    exact .inl ⟨rfl, hd H p⟩
theorem for_enumS {x : Str} {g : TG} {tb : TS} {D : Ends} {σ : L2.St} {H : Hp} (Pv : Nat → L2.St → Hp → Prop) (h0 : Pv 0 σ H)
    (hs : ∀ i c T σ H, x.cps[i]? = some c → Pv i σ H → H T = none → g (.ref T) σ (upd H T (.tup [.int (i : Nat), .str ⟨#[c]⟩])) fun σ2 H2 => tb { D with nx := Pv (i + 1), ct := Pv (i + 1), bk := D.nx } σ2 H2) (hd : ∀ σ H, Pv x.cps.size σ H → D.nx σ H) :
    ∃ W : Nat → Nat → L2.St → Hp → Prop, (∃ m, W 0 m σ H) ∧ ∀ i m σ H, W i m σ H →
      ((Ites x).stop i H ∧ D.nx σ H) ∨ ((Ites x).go i H ∧ ∃ N : L2.St → Hp → Prop, (∀ σ' H', N σ' H' → ∃ m', m' < m ∧ W (i + 1) m' σ' H') ∧ ∀ v H', (Ites x).yld i H v H' → g v σ H' fun σ2 H2 => tb { D with nx := N, ct := N, bk := D.nx } σ2 H2) := by
  refine ⟨fun i m σ H => m = x.cps.size - i ∧ i ≤ x.cps.size ∧ Pv i σ H, ⟨x.cps.size, by simp, Nat.zero_le _, h0⟩, ?_⟩
  rintro i m σ H ⟨rfl, hi, p⟩
  by_cases hlt : i < x.cps.size
  · refine .inr ⟨hlt, Pv (i + 1), fun σ' H' p' => ⟨x.cps.size - (i + 1), by omega, rfl, hlt, p'⟩, fun v H' y => ?_⟩
    obtain ⟨T, c, rfl, hT, hc, rfl⟩ := y
    exact hs i c T σ H hc p hT
  · have e : i = x.cps.size := by omega
    subst e
    exact .inl ⟨rfl, hd σ H p⟩
end G1
/-! for i, x in enumerate(tuple) -/
namespace G1
open PySem PySem.Spec PyProof.Rows L2
def enumObj (n : Addr) : Obj := { cls := .type "enumerate", data := .fields #[.none, .bool false, .ref n, rawInt 0, .none, .none] }
/-- enumerate(v) of what has an iterator -/
theorem meets_en {v : Value} {o : Obj} {Hh : Heap → Prop} (B : Begins v o Hh) : Meets (Builtin.«enumerate.__new__» ⟨[.type "enumerate", v], []⟩) (fun _ R s => Hh s.heap ∧
    R (.ok (.ret (.ref (s.heap.push o).objs.size))) { s with heap := (s.heap.push o).push (enumObj s.heap.objs.size) }) := by
  refine .of_wp fun pr ww AA RR s hyp => ?_
  obtain ⟨hp, gg, dd, tt, ss⟩ := s
  obtain ⟨h1, hyp⟩ := hyp
  have hsub := sub_enumerate
  have it : ∀ {A' : Around} {E' : Value → Shared → Prop} {Q' : Value → Shared → Prop}, Q' (.ref hp.objs.size) ⟨hp.push o, gg, dd, tt, ss⟩ → wpAny (model pr ww) A' (pyIter v) Q' E' ⟨hp, gg, dd, tt, ss⟩ := fun z => B.iter pr ww _ _ ⟨hp, gg, dd, tt, ss⟩ _ h1 z
  wp_walk using it
  refine wpAny_stack_any fun _ => wpAny_pure ?_
  split
  · rename_i cc _ _ _ _ _
    cases (cc == Value.type "enumerate") <;> (wp_walk using it; exact ⟨_, rfl, hyp⟩)
  · (wp_walk using it; exact ⟨_, rfl, hyp⟩)
theorem call_en {P : Program} {w : World} {A : Around} {E : Value → Shared → Prop} {s : Shared} {v : Value} {o : Obj} {Hh : Heap → Prop} {Q : Value → Shared → Prop} (B : Begins v o Hh) (h1 : Hh s.heap)
    (h : ∀ h', IsEnum h' (s.heap.objs.size + 1) s.heap.objs.size 0 .none → h'.get? s.heap.objs.size = some o → (∀ b x, s.heap.get? b = some x → h'.get? b = some x) → Q (.ref (s.heap.objs.size + 1)) { s with heap := h' }) :
    wpAny (model P w) A (call (.type "enumerate") [v]) Q E s := by
  refine callType_new F.called_enumerate (by decide) (F.typeCall_enumerate_1 _) (F.newCall_enumerate_1 _) (fun z => F.args_object_init_2 z _) F.entry_enumerate_new (meets_en B) ⟨h1, ?_⟩
  have z1 : (s.heap.push o).objs.size = s.heap.objs.size + 1 := Heap.size_push ..
  have e1 := Heap.get?_push_size (s.heap.push o) (o := enumObj s.heap.objs.size) rfl
  show _ ∧ _
  rw [z1]
  rw [z1] at e1
  exact ⟨⟨_, e1, rfl⟩, h _ e1 (Heap.get?_push_of_some _ (Heap.get?_push_size _ B.free)) fun b x z => Heap.get?_push_of_some _ (Heap.get?_push_of_some _ z)⟩
/-- the items of the tuple at a, each in a new pair with its place -/
def Iten (K : PySem.W.Frag) (a : Addr) : It :=
  ⟨fun i H => ∃ (xs : List V) (x : V), SqT K H a xs ∧ xs[i]? = some x, fun i H v H' => ∃ T x, v = .ref T ∧ H T = none ∧ H' = upd H T (.tup [.int (i : Nat), x]) ∧ ∀ xs, SqT K H a xs → xs[i]? = some x, fun i H => ∃ xs : List V, SqT K H a xs ∧ xs.length = i⟩
theorem turn_en {P : Program} {w : World} {K : PySem.W.Frag} {elts : List Expr} {kk : Nat} {tpos : Pos} (a e it : Addr) :
    Turn P w K (.Tuple elts kk tpos) (Iten K a) [e, it] e (fun i h => (∃ old, IsEnum h e it (0 + (i : Int)) old) ∧ h.IsTupleIter it a i ∧ e ≠ it ∧ e ≠ a ∧ a ≠ it) where
  mem := by simp
  obj := fun i h st b hb => by
    obtain ⟨⟨old, he⟩, ⟨o, ho, hc, hd⟩, _⟩ := st
    rcases (by simpa using hb : b = e ∨ b = it) with rfl | rfl
    · exact ⟨_, he, fun v z => nomatch z⟩
    · refine ⟨o, ho, fun v z => ?_⟩
      rw [hd] at z
      cases z
  keep := fun i h h' st k => by
    obtain ⟨⟨old, he⟩, hi, r⟩ := st
    exact ⟨⟨old, k e (by simp) _ he⟩, hi.at fun o q => k it (by simp) o q, r⟩
  item := by
    intro X hX hW hKK calm i pins s σ H E I away st hg
    subst hX hW hKK
    obtain ⟨he, hit, n1, n2, n3⟩ := st
    obtain ⟨xs, x, hq, hx⟩ := hg
    obtain ⟨its, rv, p, _⟩ := I.tuple hq
    obtain ⟨u, hu, ru⟩ := rv.get hx
    have D := Draws.tuple (prog := X.prog) (w := X.w) (A := X.A.in1) (I.ok.hd calm) it a n3 its.toArray
    have W := GoesN.enumFrom (elts := elts) (x1 := kk) (pos := tpos) 0 D e n1 (by simp [n1, n2]) (by simp)
    have il : i < its.toArray.size := by
      have := (List.getElem?_eq_some_iff.mp hu).1
      simpa using this
    refine W.goes i s _ E il ⟨he, hit, p⟩ fun v h' tk hY st' hk htk => ?_
    obtain ⟨T, t', y, ev, hT, hy, hO⟩ := hY
    have ey : y = u := by
      rw [List.getElem?_toArray, hu] at hy
      exact (Option.some.inj hy).symm
    subst ev ey
    obtain ⟨o, ho, hoc, n, hod⟩ := hO
    have new : ObjOk X.prog X.w (upd H T (.tup [.int (i : Nat), x])) h' T (.tup [.int (i : Nat), x]) :=
      ⟨by show 2 ≤ sizeLine; decide, [.int (0 + (i : Int)) t', y], .cons ⟨t', by rw [Int.zero_add]⟩ (.cons ru .nil), ⟨o, ho, hoc, n, hod⟩⟩
    have I1 : Inv X pins σ (upd H T (.tup [.int (i : Nat), x])) { s with heap := h', toks := tk } := I.turnedNew (ch := [e, it]) hk away hT new
    refine ⟨.ref T, _, I1, rfl, ⟨T, x, rfl, I.hok.fresh hT, rfl, fun ys hy => by rw [I.tuple_inj hy hq]; exact hx⟩, ⟨st'.1, st'.2.1, n1, n2, n3⟩, fun b hb => ?_⟩
    have hb' : b < s.heap.objs.size := by
      obtain ⟨old, he⟩ := he
      obtain ⟨o2, ho2, _⟩ := hit
      rcases (by simpa using hb : b = e ∨ b = it) with rfl | rfl
      · exact Heap.lt_size he
      · exact Heap.lt_size ho2
    rw [upd_ne (Nat.ne_of_lt (Nat.lt_of_lt_of_le hb' hT))]
    exact (away b hb).1
  done := by
    intro X hX hW hKK calm i pins s σ H E I away st hg
    subst hX hW hKK
    obtain ⟨he, hit, n1, n2, n3⟩ := st
    obtain ⟨xs, hq, hl⟩ := hg
    obtain ⟨its, rv, p, _⟩ := I.tuple hq
    have l2 := rv.length
    have D := Draws.tuple (prog := X.prog) (w := X.w) (A := X.A.in1) (I.ok.hd calm) it a n3 its.toArray
    have W := GoesN.enumFrom (elts := elts) (x1 := kk) (pos := tpos) 0 D e n1 (by simp [n1, n2]) (by simp)
    have ei : i = its.toArray.size := by
      rw [List.size_toArray]
      omega
    rw [ei] at he hit
    refine W.stops s _ E ⟨he, hit, p⟩ fun h' tk hk htk => ?_
    exact I.turnedL (t' := tk) (ch := [e, it]) hk away
  self := fun A i s Q E st q => wpAny_pyIter_enum st.1.choose_spec q
def iEnumT (K : PySem.W.Frag) (ta : TA) : TI := fun σ H R => ta σ H fun vs H1 => ∃ a xs, vs = [.ref a] ∧ SqT K H1 a xs ∧ R (Iten K a) H1
theorem pi_enumT {X : Cx} {e : Expr} {ta : TA} {p pos tpos : Pos} {elts : List Expr} {kk : Nat} (hg : Gl X "enumerate") (hm : X.mg "enumerate" = none) (ha : PA X [e] ta) (hs : starEach [e] X.env = [(false, eval e X.env)] := by rfl) :
    PI X (.Tuple elts kk tpos) (.Call (.Name "enumerate" p) [e] [] pos) (iEnumT X.K ta) := by
  refine ⟨fun pn s σ H R Iv told => Call_ (ld_blt Iv hg hm boot_enumerate (PyProof.Rows.callWith_type1 (thn (ha.run pos pn s σ H _ Iv told) ?_) hs rfl))⟩
  rintro us s1 ⟨vs, H1, I1, r1, a, xs, rfl, hq, q⟩
  cases r1 with
  | cons r rr =>
    cases rr
    cases r
    obtain ⟨its, rv, p', _⟩ := I1.tuple hq
    have la : a < s1.heap.objs.size := by
      obtain ⟨o, ho, _⟩ := p'
      exact Heap.lt_size ho
    refine call_en (begins_tuple a its.toArray) p' fun h' he hit hk => wpAny_pyIter_enum he ?_
    refine ⟨s1.heap.objs.size + 1, [s1.heap.objs.size + 1, s1.heap.objs.size], _, _, H1, rfl, I1.kept (t' := s1.toks) hk, turn_en a (s1.heap.objs.size + 1) s1.heap.objs.size, ⟨⟨.none, he⟩, ⟨_, hit, rfl, rfl⟩, Nat.succ_ne_self _, ?_, ?_⟩, fun b hb => ?_, q⟩
    · exact fun z => absurd la (by rw [← z]; exact Nat.not_lt.mpr (Nat.le_succ _))
    · exact Nat.ne_of_lt la
    · have up : s1.heap.objs.size ≤ b := by
        rcases (by simpa using hb : b = s1.heap.objs.size + 1 ∨ b = s1.heap.objs.size) with rfl | rfl
        · exact Nat.le_succ _
        · exact Nat.le_refl _
      exact I1.fpOk up (I1.hok.fresh up)
theorem lc_enumT {K : PySem.W.Frag} {a : Addr} {xs : List V} {g : TG} {tt : TT} {te : TE} {vs : List Nat} {σ : L2.St} {H1 : Hp} {D : Addr} {Qd : Hp → Prop} (Pv : Nat → Hp → Prop) (h0 : Pv 0 (upd H1 D (.lst [])))
    (hq : ∀ i H, Pv i H → SqT K H a xs)
    (hs : ∀ i x T H, xs[i]? = some x → Pv i H → H T = none → g (.ref T) (wipe σ vs) (upd H T (.tup [.int (i : Nat), x])) fun σ2 H2 => wipe σ2 vs = wipe σ vs ∧ tt σ2 H2 fun b H3 =>
      if b = true then te σ2 H3 fun y H4 => ∃ acc, H4 D = some (.lst acc) ∧ acc.length < sizeLine ∧ Pv (i + 1) (upd H4 D (.lst (acc ++ [y]))) else Pv (i + 1) H3) (hd : ∀ H, Pv xs.length H → Qd H) :
    ∃ W : Nat → Nat → Hp → Prop, (∃ m, W 0 m (upd H1 D (.lst []))) ∧ ∀ i m H, W i m H →
      ((Iten K a).stop i H ∧ Qd H) ∨ ((Iten K a).go i H ∧ ∃ Nx : Hp → Prop, (∀ H', Nx H' → ∃ m', m' < m ∧ W (i + 1) m' H') ∧ ∀ v H', (Iten K a).yld i H v H' → g v (wipe σ vs) H' fun σ2 H2 => wipe σ2 vs = wipe σ vs ∧ tt σ2 H2 fun b H3 =>
        if b = true then te σ2 H3 fun y H4 => ∃ acc, H4 D = some (.lst acc) ∧ acc.length < sizeLine ∧ Nx (upd H4 D (.lst (acc ++ [y]))) else Nx H3) := by
  refine ⟨fun i m H => m = xs.length - i ∧ i ≤ xs.length ∧ Pv i H, ⟨xs.length, by simp, Nat.zero_le _, h0⟩, ?_⟩
  rintro i m H ⟨rfl, hi, p⟩
  have sq := hq i H p
  by_cases hlt : i < xs.length
  · refine .inr ⟨⟨xs, xs[i], sq, List.getElem?_eq_getElem hlt⟩, Pv (i + 1), fun H' p' => ⟨xs.length - (i + 1), by omega, rfl, hlt, p'⟩, fun v H' y => ?_⟩
    obtain ⟨T, x, rfl, hT, rfl, hx⟩ := y
    exact hs i x T H (hx xs sq) p hT
  · have e : i = xs.length := by omega
    subst e
    exact .inl ⟨⟨xs, sq, rfl⟩, hd H p⟩
end G1
/-! repr of None and of numbers -/
namespace G1
open PySem PySem.Spec PyProof.Rows L2
def shO0 : V → Str
  | .int i => Str.ofString (toString i)
  | _ => "None"
/-- the text of None or of a number -/
@[irreducible] def shO (v : V) : Str := shO0 v
/-- None, or a number that is not too great -/
def Leaf (v : V) : Prop := v = .non ∨ ∃ i : Int, v = .int i ∧ i.natAbs.log2 < 1920
theorem leaf_non : Leaf .non := .inl rfl
theorem leaf_int {i : Int} (h0 : 0 ≤ i) (h1 : i < 2 ^ 1000) : Leaf (.int i) := by
  refine .inr ⟨i, rfl, ?_⟩
  obtain ⟨n, rfl⟩ : ∃ n : Nat, i = (n : Int) := ⟨i.toNat, by omega⟩
  have hn : n < 2 ^ 1000 := by
    have e : ((2 : Int) ^ 1000) = ((2 ^ 1000 : Nat) : Int) := by norm_cast
    rw [e] at h1
    exact Int.ofNat_lt.mp h1
  by_cases z : n = 0
  · subst z
    decide
  · have : n.log2 < 1000 := (Nat.log2_lt z).mpr hn
    show n.log2 < 1920
    omega
section
variable {X : Cx}
theorem call_reprO : CallR X (.builtin "repr") (fun xs H Q => ∃ v : V, xs = [v] ∧ Leaf v ∧ Q (.str (shO v)) H) := by
  intro pn s σ H xs us Q I r told
  obtain ⟨v, rfl, lf, q⟩ := told
  obtain ⟨u, rfl, ru⟩ := vals1 r
  unfold shO at q
  rcases lf with rfl | ⟨i, rfl, hi⟩
  · obtain rfl : u = Value.none := ru
    exact PySem.P.repr_of_none ⟨.str _, H, I.tok _, ⟨_, rfl⟩, q⟩
  · obtain ⟨t, rfl⟩ := ru
    exact PySem.P.repr_of_int hi ⟨.str _, H, I.tok _, ⟨_, rfl⟩, q⟩
end
end G1
/-! repr of lists of numbers and None -/
namespace G1
open PySem PySem.Spec PyProof.Rows L2
/-- None, or a number below 10 ** 30 -/
def Num (d : PyData) : Prop := d = .none ∨ ∃ i : Int, d = .int i ∧ 0 ≤ i ∧ i < 10 ^ 30
theorem num_weight {d : PyData} (h : Num d) : d.weight ≤ 101 := by
  rcases h with rfl | ⟨i, rfl, h0, h1⟩
  · exact Nat.zero_le _
  · show (if i == 0 then 0 else i.natAbs.log2 + 1) ≤ 101
    split
    · omega
    · obtain ⟨n, rfl⟩ : ∃ n : Nat, i = (n : Int) := ⟨i.toNat, by omega⟩
      rename_i hz
      have z : n ≠ 0 := fun e => by rw [e] at hz; exact hz rfl
      have hn : n < 2 ^ 100 := by
        have e : (10 : Int) ^ 30 < ((2 ^ 100 : Nat) : Int) := by decide
        omega
      have : n.log2 < 100 := (Nat.log2_lt z).mpr hn
      show n.log2 + 1 ≤ 101
      omega
theorem num_short {d : PyData} (h : Num d) : d.leavesShort 40 = true := by
  rcases h with rfl | ⟨i, rfl, h0, h1⟩
  · rfl
  · show decide ((PyData.shown (.int i)).length ≤ 40) = true
    rw [decide_eq_true_eq]
    have e := PyProof.Rows.toString_length_le h0 (k := 30) (by decide) h1
    have e2 : (PyData.shown (.int i)).length = (Str.ofString (toString i)).length := rfl
    omega
theorem log_ok {i : Int} (h0 : 0 ≤ i) (h1 : i < 10 ^ 30) : i.natAbs.log2 < 1920 := by
  rcases leaf_int h0 (Int.lt_trans h1 (by decide)) with e | ⟨j, e, h⟩
  · cases e
  · obtain rfl := V.int.inj e
    exact h
theorem num_all : ∀ ds : List PyData, (∀ d ∈ ds, Num d) → PyData.showableAll ds = true ∧ PyData.hasDictAll ds = false ∧ PyData.depthAll ds ≤ 20 ∧ PyData.leavesShortAll 40 ds = true ∧ PyData.weightAll ds ≤ 102 * ds.length
  | [], _ => by simp [PyData.showableAll, PyData.hasDictAll, PyData.depthAll, PyData.leavesShortAll, PyData.weightAll]
  | d :: ds, h => by
    obtain ⟨h1, h2, h3, h4, h5⟩ := num_all ds fun e he => h e (List.mem_cons_of_mem _ he)
    have n := h d List.mem_cons_self
    have nw := num_weight n
    have ns := num_short n
    refine ⟨?_, ?_, ?_, ?_, ?_⟩
    · rcases n with rfl | ⟨i, rfl, i0, i1⟩
      · simp [PyData.showableAll, PyData.showable, h1]
      · simp [PyData.showableAll, PyData.showable, h1, log_ok i0 i1]
    · rcases n with rfl | ⟨i, rfl, _⟩ <;> simp [PyData.hasDictAll, PyData.hasDict, h2]
    · rcases n with rfl | ⟨i, rfl, _⟩ <;> (simp only [PyData.depthAll, PyData.depth]; omega)
    · simp [PyData.leavesShortAll, h4, ns]
    · simp only [PyData.weightAll, List.length_cons]
      omega
theorem repr_nums {K : PySem.W.Frag} {H : Hp} {R : PyData → Prop} {a : Addr} {xs : List V} (ds : List PyData) (e : H a = some (.lst xs)) (hd : DpAll K H xs ds) (hs : ∀ d ∈ ds, Num d) (hl : ds.length ≤ 40) (q : R (.list ds)) :
    ∃ (a' : Addr) (d' : PyData), [V.ref a] = [V.ref a'] ∧ Dp K H (.ref a') d' ∧ d'.showable = true ∧ d'.hasDict = false ∧ d'.depth ≤ 60 ∧ d'.shown.length ≤ sizeLine ∧ R d' := by
  obtain ⟨h1, h2, h3, h4, h5⟩ := num_all ds hs
  refine ⟨a, .list ds, rfl, .lst (.inl (.inl e)) hd, ?_, ?_, ?_, ?_, q⟩
  · simp only [PyData.showable]; exact h1
  · simp only [PyData.hasDict]; exact h2
  · simp only [PyData.depth]; omega
  · have s := PyData.shown_le 40 (by decide) (.list ds) (by simp only [PyData.leavesShort]; exact h4)
    simp only [PyData.weight] at s
    have : 102 * ds.length ≤ 102 * 40 := Nat.mul_le_mul_left _ hl
    exact Nat.le_trans s (Nat.le_trans (by omega : 42 * PyData.weightAll ds + 40 ≤ 200000) (by decide))
end G1
/-! draws from a dict: two lists, a sum and a count under a name of its own -/
namespace G1
open PySem PySem.Spec PyProof.Rows L2
/-- the dict's pairs -/
def dkv (m : Str) (g c : Addr) (W k : Int) : List (Key × V) := [(Sum.inr ("great" : Str), .ref g), (Sum.inr ("cells" : Str), .ref c), (Sum.inr ("whole" : Str), .int W), (Sum.inr m, .int k)]
/-- the deck at w, its great numbers at g -/
def DkAt (m : Str) (w g : Addr) (H : Hp) : Prop := ∃ (c : Addr) (gs cs : List Int) (W k : Int), w ≠ g ∧ c ≠ g ∧ c ≠ w ∧ H w = some (.dK (dkv m g c W k)) ∧
  H g = some (.lst (gs.map V.int)) ∧ H c = some (.lst (cs.map V.int)) ∧ 0 < cs.length ∧ gs.length ≤ 1000 ∧ cs.length ≤ 1000
section
variable {m : Str} {w g p : Addr} {H H' : Hp} {o : HO}
theorem DkAt.same (D : DkAt m w g H) (s : Same H H') : DkAt m w g H' := by
  obtain ⟨c, gs, cs, W, k, h1, h2, h3, h4, h5, h6, h7⟩ := D
  exact ⟨c, gs, cs, W, k, h1, h2, h3, s _ _ h4, s _ _ h5, s _ _ h6, h7⟩
theorem DkAt.fresh (D : DkAt m w g H) (h : H p = none) : p ≠ w ∧ p ≠ g := by
  obtain ⟨c, gs, cs, W, k, h1, h2, h3, h4, h5, h6, h7⟩ := D
  exact ⟨(ne_of_none h4 h).symm, (ne_of_none h5 h).symm⟩
theorem new_ofK (D : DkAt m w g H) (hp : H p = none) (e : upd H p o = H') : Same H H' ∧ DkAt m w g H' ∧ At w g H' p o := by
  subst e
  exact ⟨same_new hp, D.same (same_new hp), (D.fresh hp).1, (D.fresh hp).2, upd_same⟩
theorem DkAt.tup {a : Addr} {xs : List V} (D : DkAt m w g H) (h : H a = some (.tup xs)) : At w g H a (.tup xs) := by
  obtain ⟨c, gs, cs, W, k, h1, h2, h3, h4, h5, h6, h7⟩ := D
  exact ⟨ne_of h h4 (by intro z; cases z), ne_of h h5 (by intro z; cases z), h⟩
end
theorem dk_get {m : Str} {g c : Addr} {W k : Int} (hm : Sum.inr m ≠ (Sum.inr ("great" : Str) : Key) ∧ Sum.inr m ≠ (Sum.inr ("cells" : Str) : Key) ∧ Sum.inr m ≠ (Sum.inr ("whole" : Str) : Key)) :
    valV (dkv m g c W k) (Sum.inr ("great" : Str)) = some (.ref g) ∧ valV (dkv m g c W k) (Sum.inr ("cells" : Str)) = some (.ref c) ∧ valV (dkv m g c W k) (Sum.inr ("whole" : Str)) = some (.int W) ∧ valV (dkv m g c W k) (Sum.inr m) = some (.int k) := by
  have e1 : (Sum.inr ("great" : Str) : Key) ≠ Sum.inr ("cells" : Str) := by decide
  have e2 : (Sum.inr ("great" : Str) : Key) ≠ Sum.inr ("whole" : Str) := by decide
  have e3 : (Sum.inr ("cells" : Str) : Key) ≠ Sum.inr ("whole" : Str) := by decide
  refine ⟨?_, ?_, ?_, ?_⟩
  · simp [dkv, valV]
  · simp [dkv, valV, e1]
  · simp [dkv, valV, e2, e3]
  · simp [dkv, valV, hm.1.symm, hm.2.1.symm, hm.2.2.symm]
end G1
/-! draws from a dict, the list of cells named; objects apart from all of it -/
namespace G1
open PySem PySem.Spec PyProof.Rows L2
def DkC (m : Str) (w g c : Addr) (H : Hp) : Prop := ∃ (gs cs : List Int) (W k : Int), w ≠ g ∧ c ≠ g ∧ c ≠ w ∧ H w = some (.dK (dkv m g c W k)) ∧
  H g = some (.lst (gs.map V.int)) ∧ H c = some (.lst (cs.map V.int)) ∧ 0 < cs.length ∧ gs.length ≤ 1000 ∧ cs.length ≤ 1000
/-- o stands at a, apart from the deck -/
structure Ac (w g c : Addr) (H : Hp) (a : Addr) (o : HO) : Prop where
  nw : a ≠ w
  ng : a ≠ g
  nc : a ≠ c
  at_ : H a = some o
theorem Ac.go {w g c : Addr} {H H' : Hp} {a : Addr} {o : HO} (x : Ac w g c H a o) (s : Go w g H H') : Ac w g c H' a o := ⟨x.nw, x.ng, x.nc, s a o x.nw x.ng x.at_⟩
theorem Ac.same {w g c : Addr} {H H' : Hp} {a : Addr} {o : HO} (x : Ac w g c H a o) (s : Same H H') : Ac w g c H' a o := ⟨x.nw, x.ng, x.nc, s a o x.at_⟩
section
variable {m : Str} {w g c p : Addr} {H H' : Hp} {o : HO}
theorem DkC.same (D : DkC m w g c H) (s : Same H H') : DkC m w g c H' := by
  obtain ⟨gs, cs, W, k, h1, h2, h3, h4, h5, h6, h7⟩ := D
  exact ⟨gs, cs, W, k, h1, h2, h3, s _ _ h4, s _ _ h5, s _ _ h6, h7⟩
theorem DkC.fresh (D : DkC m w g c H) (h : H p = none) : p ≠ w ∧ p ≠ g ∧ p ≠ c := by
  obtain ⟨gs, cs, W, k, h1, h2, h3, h4, h5, h6, h7⟩ := D
  exact ⟨(ne_of_none h4 h).symm, (ne_of_none h5 h).symm, (ne_of_none h6 h).symm⟩
theorem new_ofC (D : DkC m w g c H) (hp : H p = none) (e : upd H p o = H') : Same H H' ∧ DkC m w g c H' ∧ Ac w g c H' p o := by
  subst e
  exact ⟨same_new hp, D.same (same_new hp), (D.fresh hp).1, (D.fresh hp).2.1, (D.fresh hp).2.2, upd_same⟩
theorem DkC.tup {a : Addr} {xs : List V} (D : DkC m w g c H) (h : H a = some (.tup xs)) : Ac w g c H a (.tup xs) := by
  obtain ⟨gs, cs, W, k, h1, h2, h3, h4, h5, h6, h7⟩ := D
  exact ⟨ne_of h h4 (by intro z; cases z), ne_of h h5 (by intro z; cases z), ne_of h h6 (by intro z; cases z), h⟩
/-- what stands apart is written -/
theorem DkC.upd {u : HO} (D : DkC m w g c H) (n1 : p ≠ w) (n2 : p ≠ g) (n3 : p ≠ c) : DkC m w g c (L2.upd H p u) := by
  obtain ⟨gs, cs, W, k, h1, h2, h3, h4, h5, h6, h7⟩ := D
  exact ⟨gs, cs, W, k, h1, h2, h3, (upd_ne n1.symm).trans h4, (upd_ne n2.symm).trans h5, (upd_ne n3.symm).trans h6, h7⟩
theorem Ac.upd {a : Addr} {u : HO} (x : Ac w g c H a o) (n : a ≠ p) : Ac w g c (L2.upd H p u) a o := ⟨x.nw, x.ng, x.nc, (upd_ne n).trans x.at_⟩
theorem Ac.set {u : HO} (x : Ac w g c H p o) : Ac w g c (L2.upd H p u) p u := ⟨x.nw, x.ng, x.nc, upd_same⟩
theorem go_upd' {D : Addr} {u : HO} {H1 : Hp} (S : Go w g H H1) (h : H D = none) : Go w g H (L2.upd H1 D u) := fun x v h1 h2 e => by
  rw [upd_ne (ne_of_none e h)]
  exact S x v h1 h2 e
end
end G1
/-! tuple[::-1] -/
namespace G1
open PySem PySem.Spec PyProof.Rows L2 HT
section
variable {prog : Program} {w : World} {A : Around} {E : Value → Shared → Prop} {s : Shared}
theorem adjust_rev (n : Nat) : Builtin.Slice.sliceAdjust none none (-1) (n : Int) = ((n : Int) - 1, -1) := by
  unfold Builtin.Slice.sliceAdjust
  simp
theorem places_rev (n : Nat) : Builtin.Slice.slicePlaces ((n : Int) - 1) (-1) (-1) = n := by
  unfold Builtin.Slice.slicePlaces
  have h1 : ¬ ((-1 : Int) > 0) := by omega
  simp only [h1, if_false]
  rw [show (- -1 : Int) = 1 by decide, Int.ediv_one]
  split <;> omega
theorem sliceApplied_rev {sl : Addr} {vs : Value} {n : Nat} {Q : Int × Int × Nat → Shared → Prop} (hs : s.heap.IsSliceOf sl .none .none vs) (ps : IsPart vs (some (-1)))
    (h : Q ((n : Int) - 1, -1, n) s) : wpAny (model prog w) A (Builtin.Slice.sliceApplied (.ref sl) (pure (n : Int))) Q E s := by
  obtain ⟨os, hos, hcs, hds⟩ := id hs
  unfold Builtin.Slice.sliceApplied Builtin.Slice.sliceFields
  refine wpAny_bind (wpAny_bind (wpAny_field hos hds (x := .none) rfl (wpAny_bind (wpAny_field hos hds (x := .none) rfl (wpAny_bind (wpAny_field hos hds (x := vs) rfl (wpAny_pure ?_)))))))
  refine wpAny_bind (slicePart_ ps ?_)
  show wpAny _ _ (if ((-1 : Int) == 0) = true then _ else _) _ _ s
  rw [if_neg (by decide)]
  refine wpAny_bind (slicePart_ .none (wpAny_bind (slicePart_ .none (wpAny_bind (wpAny_pure ?_)))))
  show wpAny _ _ (match Builtin.Slice.sliceAdjust none none (-1) (n : Int) with | (lo, hi) => pure (lo, (-1 : Int), Builtin.Slice.slicePlaces lo hi (-1))) _ _ s
  rw [adjust_rev n]
  show wpAny _ _ (pure ((n : Int) - 1, (-1 : Int), Builtin.Slice.slicePlaces ((n : Int) - 1) (-1) (-1))) _ _ s
  rw [places_rev]
  exact wpAny_pure h
theorem pick_rev (xs : Array Value) : ((List.range xs.size).filterMap fun (m : Nat) => xs[((xs.size : Int) - 1 + (m : Int) * -1).toNat]?).toArray = xs.toList.reverse.toArray := by
  have e : (fun (m : Nat) => xs[((xs.size : Int) - 1 + (m : Int) * -1).toNat]?) = (xs[·]?) ∘ fun m => xs.size - 1 - m := by
    funext m
    have : ((xs.size : Int) - 1 + (m : Int) * -1).toNat = xs.size - 1 - m := by omega
    rw [this]
    rfl
  rw [e, ← List.filterMap_map, PySem.W.krv_range, List.filterMap_reverse, PySem.W.krv_all]
theorem getItem_tuple_rev {t sl : Addr} {items : Array Value} {vs : Value} {Q : Value → Shared → Prop} (ht : IsTup s.heap t items) (hs : s.heap.IsSliceOf sl .none .none vs) (ps : IsPart vs (some (-1)))
    (h : Q (.ref s.heap.objs.size) { s with heap := s.heap.push { cls := .type "tuple", data := .seq items.toList.reverse.toArray } })
    (hsz : items.size ≤ sizeLine) : wpAny (model prog w) A (getItem (.ref t) (.ref sl)) Q E s := by
  have htake : sizeOk (.seq items.toList.reverse.toArray) := by
    show items.toList.reverse.toArray.size ≤ sizeLine
    rw [List.size_toArray, List.length_reverse, Array.length_toList]
    exact hsz
  obtain ⟨os, hos, hcs, hds⟩ := id hs
  have hTs : s.TypeIs (.ref sl) "slice" := ⟨os, hos, hcs⟩
  unfold getItem
  try with_reducible refine wpAny_holding ?_
  first | refine wpAny_bind (wpAny_pure ?_) | skip
  refine wpAny_bind (wpAny_sequenceKey ht.typeIs (by decide) ?_)
  refine wpAny_bind (wpAny_callSpecial?_slot (name := Str.ofString "__getitem__") ht.typeIs PyProof.Rows.slot_tuple_getitem
    (wpAny_call_entry PyProof.Rows.slot_tuple_getitem ht.typeIs entry_tuple_getitem ?_ (args_tuple_getitem _ _)))
  show wpAny _ _ (Builtin.Tuple.tupleItemsOf (.ref t) >>= _) _ _ s
  refine wpAny_bind (tupleItemsOf_ ht ?_)
  refine wpAny_bind (wpAny_typeOf hTs ?_)
  rw [if_pos (by decide)]
  refine wpAny_bind (sliceApplied_rev hs ps ?_)
  have hno : ¬ ((((items.size : Int) - 1) == 0 && (-1 : Int) == 1 && items.size == items.size) = true) := by
    intro q
    rw [Bool.and_eq_true, Bool.and_eq_true] at q
    exact absurd q.1.2 (by decide)
  show wpAny _ _ (if (((items.size : Int) - 1) == 0 && (-1 : Int) == 1 && items.size == items.size) = true then _ else _) _ _ s
  rw [if_neg hno, pick_rev]
  first
    | exact wpAny_bind (m := Builtin.Tuple.tupleExact _) (wpAny_newObj_type (wpAny_pure ⟨_, rfl, wpAny_pure h⟩) htake)
    | exact wpAny_bind (m := Builtin.Tuple.tupleExact _) (wpAny_newObj_type (wpAny_bind (wpAny_pure (wpAny_pure ⟨_, rfl, wpAny_pure h⟩))) htake)
    | exact wpAny_bind (wpAny_bind (m := Builtin.Tuple.tupleExact _) (wpAny_newObj_type (wpAny_pure (wpAny_pure ⟨_, rfl, wpAny_pure h⟩)) htake))
    | exact wpAny_bind (wpAny_bind (m := Builtin.Tuple.tupleExact _) (wpAny_newObj_type (wpAny_pure ⟨_, rfl, wpAny_pure h⟩) htake))
end
section
variable {X : Cx}
def tRevT (K : PySem.W.Frag) (te : TE) : TE := fun σ H Q => te σ H fun x H1 => ∃ a xs, x = .ref a ∧ SqT K H1 a xs ∧ ∀ p, H1 p = none → Q (.ref p) (upd H1 p (.tup xs.reverse))
theorem pe_revT {e : Expr} {te : TE} {k : Nat} {p1 p2 p3 pos : Pos} (he : PE X e te) : PE X (.Subscript e (.Slice none none (some (.UnaryOp .USub (.Constant (.int 1) k p1) p2)) p3) pos) (tRevT X.K te) := by
  refine ⟨fun pins s σ H Q I h => ?_⟩
  refine Subscript_ (thn (he.run pins s σ H _ I h) fun v s1 ⟨x, H1, I1, r1, q1⟩ => ?_)
  obtain ⟨a, xs, ex, hx, q⟩ := q1
  subst ex
  cases r1
  have hst : PO X (some (.UnaryOp .USub (.Constant (.int 1) k p1) p2)) (tPart (tUn (rU fun i => .int (-i)) (tC (.int 1)))) := po_some (pe_un un_neg pe_int)
  refine wpAny_Slice ?_
  rw [evalPart_none]
  refine wpAny_pure (wpAny_pure ?_)
  refine thn (hst.run pins s1 σ H1 (fun o H4 => o = some (-1) ∧ H4 = H1) I1 ⟨1, rfl, -1, rfl, rfl, rfl⟩) fun vs s4 ⟨o, H4, I4, ps, eo, e4⟩ => ?_
  subst eo e4
  have I5 : Inv X pins σ H4 { s4 with heap := s4.heap.push { cls := .type "slice", data := .fields #[.none, .none, vs] } } := I4.kept (t' := s4.toks) fun b ob q => Heap.get?_push_of_some _ q
  obtain ⟨its, r, ht, hz⟩ := I5.tuple hx
  have hlen := r.length
  show wpAny (model X.prog X.w) X.A (subscriptTail e (.Slice none none (some (.UnaryOp .USub (.Constant (.int 1) k p1) p2)) p3) (.ref a) (.ref s4.heap.objs.size)) (EP X pins σ Q) X.xe { s4 with heap := s4.heap.push { cls := .type "slice", data := .fields #[.none, .none, vs] } }
  refine tail_any (ops := [.ref a, .ref s4.heap.objs.size]) ht.typeIs (PyProof.Rows.slot_tuple_getitem.lookup) ?_ (by with_unfolding_all rfl)
  refine getItem_tuple_rev ht (Heap.IsSliceOf.new _ .none .none vs) ps ?_ (by rw [List.size_toArray]; omega)
  refine ⟨.ref _, _, I5.laid (t' := s4.toks) (o := .tup xs.reverse) (fun b ob q => Heap.get?_push_of_some _ q) (Nat.le_refl _) ?_, rfl, q _ (I5.hok.fresh (Nat.le_refl _))⟩
  exact ⟨by rw [List.length_reverse]; exact hz, _, r.reverse, IsTup.new _ _⟩
end
end G1
/-! tuple * n of any n from 1 on -/
namespace G1
open PySem PySem.Spec PyProof.Rows L2
theorem tuple_mul1 (l : Addr) (items : Array Value) (n : Nat) (dd : Option Addr) (sl : Array (Option Value)) (u : Tok) :
    Meets (Builtin.«tuple.__mul__» ⟨[.ref l, .int 1 u], []⟩) (fun _ R s => s.heap.get? l = some { cls := .type "tuple", dict := dd, data := .seq items n, slots := sl } ∧
      R (.ok (.ret (Value.ref l))) s) :=
  .of_wp fun prog w A R s h => by
    obtain ⟨hp, g, d, tk, os⟩ := s
    obtain ⟨hl, h⟩ := h
    have f1 := AutoSeq1.idx_int
    have c0 : (decide ((1 : Int) < -(2 ^ 63)) || decide ((1 : Int) ≥ 2 ^ 63)) = false := by decide
    have c1 : (items.isEmpty || (1 : Int) == 1) = true := by simp
    wp_walk using wpAny_loadPart' hl
    repeat (first
      | (refine wpAny_ite_false (decide_eq_false (by rw [c0]; exact Bool.false_ne_true)) ?_; wp_walk using wpAny_loadPart' hl)
      | (refine wpAny_ite_true (decide_eq_true c1) ?_; wp_walk using wpAny_loadPart' hl))
    exact ⟨_, rfl, h⟩
def rRepA (K : PySem.W.Frag) : R2 := fun x y H Q => ∃ l k xs, x = .ref l ∧ y = .int k ∧ SqT K H l xs ∧ xs ≠ [] ∧ 1 ≤ k ∧ k ≤ 1000000 ∧ k.toNat * xs.length ≤ 1000000 ∧ (k = 1 → Q (.ref l) H) ∧ (k ≠ 1 → ∀ p, H p = none → Q (.ref p) (upd H p (.tup (List.replicate k.toNat xs).flatten)))
section
variable {X : Cx}
theorem op_repA : OpR X (binaryOp .Mult) (rRepA X.K) := by
  intro pins s σ H x y v u Q I rx ry h
  obtain ⟨l, k, xs, rfl, rfl, hT, hne, h1, h2, hz, q1, q2⟩ := h
  cases rx
  obtain ⟨t, rfl⟩ := ry
  obtain ⟨its, r, ⟨⟨cls, dd, data, sl⟩, ho, hc, n, hd⟩, hs⟩ := I.tuple hT
  simp only at hc hd
  subst hc hd
  have hle : its.length = xs.length := r.length.symm
  have hn : its ≠ [] := fun e => hne (by
    rw [e] at hle
    exact List.eq_nil_of_length_eq_zero hle.symm)
  have hi : its.toArray.isEmpty = false := by
    cases its with
    | nil => exact absurd rfl hn
    | cons a b => rfl
  have hsz0 : its.toArray.size = xs.length := by rw [List.size_toArray, hle]
  by_cases k1 : k = 1
  · subst k1
    refine wpAny_binaryOp_repeat_ref (T := "tuple") (U := "int") (by decide) ⟨_, ho, rfl⟩ (fun s' => typeIs_int s' 1 t) noFill_tuple_mul F.fills_int_mul F.slot_int_rmul repeat_tuple F.slot_int_index.lookup
      (call_meets F.slot_int_rmul (typeIs_int s 1 t) F.entry_int_rmul (F.args_int_rmul_2 _ _) (int_rmul_tuple 1 t l its.toArray n dd sl)
        ⟨ho, rfl, ⟨_, ho, rfl⟩, call_meets F.slot_tuple_mul ⟨_, ho, rfl⟩ F.entry_tuple_mul (F.args_tuple_mul_2 _ _) (tuple_mul1 l its.toArray n dd sl t) ⟨ho, ?_⟩⟩)
    exact ⟨.ref l, H, I, rfl, q1 rfl⟩
  have hm : ((its.toArray.size : Nat) : Int) * k ≤ 1000000 := by
    rw [hsz0]
    have : ((k.toNat * xs.length : Nat) : Int) = ((xs.length : Nat) : Int) * k := by
      rw [Int.natCast_mul, Int.toNat_of_nonneg (by omega), Int.mul_comm]
    omega
  have flen : (List.replicate k.toNat its).flatten.length ≤ sizeLine := by
    rw [PyProof.Rows.lm_len_rep_flat, hle, sizeLine_eq]
    omega
  have c0 : (decide (k < -(2 ^ 63)) || decide (k ≥ 2 ^ 63)) = false := by
    rw [decide_eq_false (by omega), decide_eq_false (by omega)] <;> rfl
  have c1 : (its.toArray.isEmpty || k == 1) = false := by
    rw [hi, Bool.false_or]
    exact beq_eq_false_iff_ne.mpr (by omega)
  have c2 : (decide (k ≤ 0) || its.toArray.isEmpty) = false := by
    rw [hi, Bool.or_false]
    exact decide_eq_false (by omega)
  have c4 : Builtin.Tuple.tupleTooMany (((its.toArray.size : Nat) : Int) * k) = false := by
    unfold Builtin.Tuple.tupleTooMany
    rw [sizeLine_eq]
    exact decide_eq_false (by omega)
  refine wpAny_binaryOp_repeat_ref (T := "tuple") (U := "int") (by decide) ⟨_, ho, rfl⟩ (fun s' => typeIs_int s' k t) noFill_tuple_mul F.fills_int_mul F.slot_int_rmul repeat_tuple F.slot_int_index.lookup
    (call_meets F.slot_int_rmul (typeIs_int s k t) F.entry_int_rmul (F.args_int_rmul_2 _ _) (int_rmul_tuple k t l its.toArray n dd sl)
      ⟨ho, rfl, ⟨_, ho, rfl⟩, call_meets F.slot_tuple_mul ⟨_, ho, rfl⟩ F.entry_tuple_mul (F.args_tuple_mul_2 _ _) (tuple_mulW l its.toArray n dd sl k t c0 c1 c2 (by omega) c4 (by rw [size_rep, List.size_toArray]; exact flen)) ⟨ho, ?_⟩⟩)
  rw [size_rep]
  refine ⟨.ref s.heap.objs.size, _, I.laid (t' := s.toks) (o := .tup (List.replicate k.toNat xs).flatten) (fun b ob q => Heap.get?_push_of_some _ q) (Nat.le_refl _) ?_, rfl, q2 k1 _ (I.hok.fresh (Nat.le_refl _))⟩
  exact ⟨by rw [PyProof.Rows.lm_len_rep_flat, sizeLine_eq]; omega, _, r.rep k.toNat, IsTup.new _ _⟩
end

/-! one way for all cases of tuples put together -/
section
variable {K : PySem.W.Frag} {H : Hp} {Q : VK}
theorem rep_all {l : Addr} {k : Int} {xs : List V} (hl : H l = some (.tup xs)) (hne : xs ≠ []) (h1 : 1 ≤ k) (h2 : k ≤ 1000000) (hz : k.toNat * xs.length ≤ 1000000)
    (h : ∀ p H', Same H H' → H' p = some (.tup (List.replicate k.toNat xs).flatten) → Q (.ref p) H') : rRepA K (.ref l) (.int k) H Q := by
  refine ⟨l, k, xs, rfl, rfl, .inl (.inl hl), hne, h1, h2, hz, fun e => ?_, fun _ p np => h p _ (fun b x e => by rw [upd_ne (ne_of_none e np)]; exact e) upd_same⟩
  subst e
  refine h l H (fun _ _ e => e) ?_
  rw [hl]
  show some (HO.tup xs) = some (HO.tup (List.replicate 1 xs).flatten)
  simp
theorem rep_all_eq {l : Addr} {k : Nat} {v : V} {xs : List V} (e : v = .int (k : Nat)) (hl : H l = some (.tup xs)) (hne : xs ≠ []) (h1 : 1 ≤ k) (h2 : k ≤ 1000000) (hz : k * xs.length ≤ 1000000)
    (h : ∀ p H', Same H H' → H' p = some (.tup (List.replicate k xs).flatten) → Q (.ref p) H') : rRepA K (.ref l) v H Q := by
  subst e
  exact rep_all hl hne (by omega) (by omega) hz h
theorem cat_all {a b : Addr} {xs ys : List V} (ha : H a = some (.tup xs)) (hb : H b = some (.tup ys)) (hz : xs.length + ys.length ≤ sizeLine)
    (h : ∀ p H', Same H H' → H' p = some (.tup (xs ++ ys)) → Q (.ref p) H') : rCatA K (.ref a) (.ref b) H Q := by
  refine ⟨a, b, xs, ys, rfl, rfl, .inl (.inl ha), .inl (.inl hb), hz, fun e => ?_, fun _ e => ?_, fun _ _ p np => h p _ (fun b x e => by rw [upd_ne (ne_of_none e np)]; exact e) upd_same⟩
  · subst e
    exact h b H (fun _ _ e => e) hb
  · subst e
    exact h a H (fun _ _ e => e) (by rw [List.append_nil]; exact ha)
theorem sl_all {a : Addr} {xs : List V} {lo hi : Option Int} (ha : H a = some (.tup xs)) (h : ∀ p H', Same H H' → H' p = some (.tup (cutV xs lo hi)) → Q (.ref p) H') : rSlA K (.ref a) lo hi H Q := by
  refine ⟨a, xs, rfl, .inl (.inl ha), fun w => ?_, fun _ p np => h p _ (fun b x e => by rw [upd_ne (ne_of_none e np)]; exact e) upd_same⟩
  refine h a H (fun _ _ e => e) ?_
  rw [ha]
  unfold cutV
  rw [w.1, w.2, List.drop_zero, Nat.sub_zero, List.take_length]
end

/-- t != () of any tuple -/
def rNe0 (K : PySem.W.Frag) : R2 := fun x y H Q => ∃ a b xs, x = .ref a ∧ y = .ref b ∧ SqT K H a xs ∧ SqT K H b [] ∧ Q (.bl (!xs.isEmpty)) H
section
variable {X : Cx}
theorem op_neT0 (hu : X.A.units + 64 < cLine) : OpR X (compareOp .NotEq) (rNe0 X.K) := by
  intro pins s σ H x y v u Q I rx ry h
  obtain ⟨a, b, xs, rfl, rfl, ha, hb, q⟩ := h
  cases rx
  cases ry
  obtain ⟨its, r1, p1, _⟩ := I.tuple ha
  obtain ⟨its2, r2, p2, _⟩ := I.tuple hb
  cases r2
  have R := PySem.SeqAt.RcNeAt.tuples (A := X.A) (s := s) (e := fun _ => true) p1 p2 (by omega) (fun j h1 h2 => absurd h2 (by simp)) X.prog X.w X.xe (EP X pins σ Q)
  refine R ⟨.bl _, H, I, rfl, ?_⟩
  have e : (!((List.range (min its.toArray.size (#[] : Array Value).size)).all (fun _ => true) && its.toArray.size == (#[] : Array Value).size)) = !xs.isEmpty := by
    have hl := r1.length
    cases xs with
    | nil =>
      cases its with
      | nil => rfl
      | cons c cs => cases hl
    | cons y ys =>
      cases its with
      | nil => cases hl
      | cons c cs => simp
  rw [show (!((List.range (min its.toArray.size ([] : List Value).toArray.size)).all (fun _ => true) && its.toArray.size == ([] : List Value).toArray.size)) = !xs.isEmpty from e]
  exact q
end
end G1
/-! zip of a tuple and a list -/
namespace G1
open PySem PySem.Spec PyProof.Rows L2
/-- the items of the tuple at a and of the list at c beside one another -/
def ItzM (K : PySem.W.Frag) (a c : Addr) : It :=
  ⟨fun i H => ∃ (xs ys : List V) (x y : V), SqT K H a xs ∧ SqL K H c ys ∧ xs[i]? = some x ∧ ys[i]? = some y,
   fun i H v H' => ∃ T x y, v = .ref T ∧ H T = none ∧ H' = upd H T (.tup [x, y]) ∧ (∀ xs, SqT K H a xs → xs[i]? = some x) ∧ ∀ ys, SqL K H c ys → ys[i]? = some y,
   fun i H => ∃ xs ys : List V, SqT K H a xs ∧ SqL K H c ys ∧ i = min xs.length ys.length⟩
theorem sepM {a c b : Addr} (ha : a < b) (hc : c < b) : ZipSep2 (b + 4) (b + 2) (b + 3) b (b + 1) [b, a] [b + 1, c] := by
  have n : ∀ (i j : Nat), i ≠ j → b + i ≠ b + j := fun i j h z => h (Nat.add_left_cancel z)
  have la : ∀ i : Nat, b + i ≠ a := fun i => Nat.ne_of_gt (Nat.lt_of_lt_of_le ha (Nat.le_add_right b i))
  have lc : ∀ i : Nat, b + i ≠ c := fun i => Nat.ne_of_gt (Nat.lt_of_lt_of_le hc (Nat.le_add_right b i))
  have nm : ∀ x y z : Addr, x ≠ y → x ≠ z → x ∉ [y, z] := fun x y z h1 h2 m => by
    rcases (by simpa using m : x = y ∨ x = z) with e | e
    · exact h1 e
    · exact h2 e
  exact ⟨n 2 4 (by decide), n 3 4 (by decide), n 2 3 (by decide), n 2 0 (by decide), by simp, nm _ _ _ (n 4 0 (by decide)) (la 4), nm _ _ _ (n 3 0 (by decide)) (la 3),
    n 2 1 (by decide), by simp, nm _ _ _ (n 4 1 (by decide)) (lc 4), nm _ _ _ (n 3 1 (by decide)) (lc 3), nm _ _ _ (n 0 1 (by decide)) (lc 0), nm _ _ _ (n 1 0 (by decide)) (la 1)⟩
def tnM (a c b : Addr) (i : Nat) (h : Heap) : Prop :=
  IsZip h (b + 4) (b + 2) (b + 3) .none ∧ IsTupOf2 h (b + 2) (.ref b) (.ref (b + 1)) ∧ (∃ u v, IsTupOf2 h (b + 3) u v) ∧ h.IsTupleIter b a i ∧ h.IsListIter (b + 1) c i
theorem turn_zipM {P : Program} {w : World} {K : PySem.W.Frag} {elts : List Expr} {kk : Nat} {tpos : Pos} {a c b : Addr} (ha : a < b) (hc : c < b) :
    Turn P w K (.Tuple elts kk tpos) (ItzM K a c) [b, b + 1, b + 2, b + 3, b + 4] (b + 4) (tnM a c b) where
  mem := by simp
  obj := fun i h st x hx => by
    obtain ⟨hz, h2, ⟨u, v, h3⟩, ⟨o1, q1, _, d1⟩, ⟨o2, q2, _, d2⟩⟩ := st
    rcases (by simpa using hx : x = b ∨ x = b + 1 ∨ x = b + 2 ∨ x = b + 3 ∨ x = b + 4) with rfl | rfl | rfl | rfl | rfl
    · exact ⟨o1, q1, fun v z => by rw [d1] at z; cases z⟩
    · exact ⟨o2, q2, fun v z => by rw [d2] at z; cases z⟩
    · exact ⟨_, h2, fun v z => nomatch z⟩
    · exact ⟨_, h3, fun v z => nomatch z⟩
    · exact ⟨_, hz, fun v z => nomatch z⟩
  keep := fun i h h' st k => by
    obtain ⟨hz, h2, ⟨u, v, h3⟩, ⟨o1, q1, r1⟩, ⟨o2, q2, r2⟩⟩ := st
    exact ⟨k _ (by simp) _ hz, k _ (by simp) _ h2, ⟨u, v, k _ (by simp) _ h3⟩, ⟨o1, k _ (by simp) _ q1, r1⟩, ⟨o2, k _ (by simp) _ q2, r2⟩⟩
  item := by
    intro X hX hW hKK calm i pins s σ H E I away st hg
    subst hX hW hKK
    obtain ⟨xs, ys, x, y, hqx, hqy, hx, hy⟩ := hg
    obtain ⟨hz, hTI, hTO, st1, st2⟩ := st
    obtain ⟨its, rv, p1, _⟩ := I.tuple hqx
    obtain ⟨its2, rv2, p2, _⟩ := I.list hqy
    obtain ⟨u, hu, ru⟩ := rv.get hx
    obtain ⟨u2, hu2, ru2⟩ := rv2.get hy
    have D1 := Draws.tuple (prog := X.prog) (w := X.w) (A := X.A.in1) (I.ok.hd calm) b a (Nat.ne_of_lt ha) its.toArray
    have D2 := Draws.list (prog := X.prog) (w := X.w) (A := X.A.in1) (I.ok.hd calm) (b + 1) c (Nat.ne_of_lt (Nat.lt_succ_of_lt hc)) its2.toArray
    have W := GoesN.zip2 (elts := elts) (x1 := kk) (pos := tpos) (sepM ha hc) D1 D2
    have il : i < min its.toArray.size its2.toArray.size := by
      have e1 := (List.getElem?_eq_some_iff.mp hu).1
      have e2 := (List.getElem?_eq_some_iff.mp hu2).1
      rw [List.size_toArray, List.size_toArray]
      omega
    refine W.goes i s _ E il ⟨hz, hTI, hTO, ⟨st1, p1⟩, ⟨st2, p2.isList⟩⟩ fun v h' tk hY st' hk htk => ?_
    obtain ⟨T, y1, y2, ev, hT, hy1, hy2, hO⟩ := hY
    have ey1 : y1 = u := by
      rw [List.getElem?_toArray, hu] at hy1
      exact (Option.some.inj hy1).symm
    have ey2 : y2 = u2 := by
      rw [List.getElem?_toArray, hu2] at hy2
      exact (Option.some.inj hy2).symm
    subst ev ey1 ey2
    obtain ⟨o, ho, hoc, n, hod⟩ := hO
    have new : ObjOk X.prog X.w (upd H T (.tup [x, y])) h' T (.tup [x, y]) :=
      ⟨by show 2 ≤ sizeLine; decide, [y1, y2], .cons ru (.cons ru2 .nil), ⟨o, ho, hoc, n, hod⟩⟩
    have I1 : Inv X pins σ (upd H T (.tup [x, y])) { s with heap := h', toks := tk } :=
      I.turnedNew (ch := [b, b + 1, b + 2, b + 3, b + 4]) (fun q o hq e => hk q o (fun z => hq (by
        rcases (by simpa using z : q = b + 4 ∨ q = b + 3 ∨ q = b ∨ q = b + 1) with rfl | rfl | rfl | rfl <;> simp)) e) away hT new
    refine ⟨.ref T, _, I1, rfl, ⟨T, x, y, rfl, I.hok.fresh hT, rfl, fun zs hq => by rw [I.tuple_inj hq hqx]; exact hx, fun zs hq => by rw [I.list_inj hq hqy]; exact hy⟩, ⟨st'.1, st'.2.1, st'.2.2.1, st'.2.2.2.1.1, st'.2.2.2.2.1⟩, fun q hq => ?_⟩
    have hb' : q < s.heap.objs.size := by
      have e4 : b + 4 < s.heap.objs.size := Heap.lt_size hz
      have l : ∀ j : Nat, j ≤ 4 → b + j < s.heap.objs.size := fun j hj => Nat.lt_of_le_of_lt (Nat.add_le_add_left hj b) e4
      rcases (by simpa using hq : q = b ∨ q = b + 1 ∨ q = b + 2 ∨ q = b + 3 ∨ q = b + 4) with rfl | rfl | rfl | rfl | rfl
      · exact l 0 (by decide)
      · exact l 1 (by decide)
      · exact l 2 (by decide)
      · exact l 3 (by decide)
      · exact l 4 (by decide)
    rw [upd_ne (Nat.ne_of_lt (Nat.lt_of_lt_of_le hb' hT))]
    exact (away q hq).1
  done := by
    intro X hX hW hKK calm i pins s σ H E I away st hg
    subst hX hW hKK
    obtain ⟨xs, ys, hqx, hqy, hi⟩ := hg
    obtain ⟨hz, hTI, hTO, st1, st2⟩ := st
    obtain ⟨its, rv, p1, _⟩ := I.tuple hqx
    obtain ⟨its2, rv2, p2, _⟩ := I.list hqy
    have l1 := rv.length
    have l2 := rv2.length
    have D1 := Draws.tuple (prog := X.prog) (w := X.w) (A := X.A.in1) (I.ok.hd calm) b a (Nat.ne_of_lt ha) its.toArray
    have D2 := Draws.list (prog := X.prog) (w := X.w) (A := X.A.in1) (I.ok.hd calm) (b + 1) c (Nat.ne_of_lt (Nat.lt_succ_of_lt hc)) its2.toArray
    have W := GoesN.zip2 (elts := elts) (x1 := kk) (pos := tpos) (sepM ha hc) D1 D2
    have ei : i = min its.toArray.size its2.toArray.size := by
      rw [List.size_toArray, List.size_toArray]
      omega
    rw [ei] at st1 st2
    refine W.stops s _ E ⟨hz, hTI, hTO, ⟨st1, p1⟩, ⟨st2, p2.isList⟩⟩ fun h' tk hk htk => ?_
    exact I.turnedL (t' := tk) (ch := [b, b + 1, b + 2, b + 3, b + 4]) (fun q o hq e => hk q o (fun z => hq (by
        rcases (by simpa using z : q = b + 4 ∨ q = b + 3 ∨ q = b ∨ q = b + 1) with rfl | rfl | rfl | rfl <;> simp)) e) away
  self := fun A i s Q E st q => wpAny_pyIter_zip st.1 q
def iZipM (K : PySem.W.Frag) (ta : TA) : TI := fun σ H R => ta σ H fun vs H1 => ∃ a c xs ys, vs = [.ref a, .ref c] ∧ SqT K H1 a xs ∧ SqL K H1 c ys ∧ R (ItzM K a c) H1
theorem pi_zipM {X : Cx} {e e2 : Expr} {ta : TA} {p pos tpos : Pos} {elts : List Expr} {kk : Nat} (hg : Gl X "zip") (hm : X.mg "zip" = none) (ha : PA X [e, e2] ta)
    (hs : starEach [e, e2] X.env = (false, eval e X.env) :: starEach [e2] X.env := by rfl) (hpl : (backTo pos (starEach [e2] X.env)).any (·.1) = false := by rfl) :
    PI X (.Tuple elts kk tpos) (.Call (.Name "zip" p) [e, e2] [] pos) (iZipM X.K ta) := by
  refine ⟨fun pins s σ H R I h => ?_⟩
  refine Call_ (ld_blt I hg hm PyProof.Rows.boot_zip (PyProof.Rows.callWith_type1 (thn (ha.run pos pins s σ H _ I h) fun us s1 ⟨vs, H1, I1, r1, q1⟩ => ?_) hs hpl))
  obtain ⟨a, c, xs, ys, ex, hqx, hqy, q⟩ := q1
  subst ex
  cases r1 with
  | cons r rr =>
    cases rr with
    | cons r' rr =>
      cases rr
      cases r
      cases r'
      obtain ⟨its, rv, p1, _⟩ := I1.tuple hqx
      obtain ⟨its2, rv2, p2, _⟩ := I1.list hqy
      have la : a < s1.heap.objs.size := by
        obtain ⟨o, ho, _⟩ := p1
        exact Heap.lt_size ho
      have lc : c < s1.heap.objs.size := p2.lt
      refine zip_begins2 (begins_tuple a its.toArray) (begins_list c its2.toArray) p1 p2.isList fun h' hz hTI hTO h1 h2 hsz hk => wpAny_pyIter_zip hz ?_
      have I2 : Inv X pins σ H1 { s1 with heap := h' } := I1.kept (t' := s1.toks) hk
      refine ⟨s1.heap.objs.size + 4, [s1.heap.objs.size, s1.heap.objs.size + 1, s1.heap.objs.size + 2, s1.heap.objs.size + 3, s1.heap.objs.size + 4], _, _, H1, rfl, I2, turn_zipM la lc, ⟨hz, hTI, ⟨_, _, hTO⟩, ⟨_, h1, rfl, rfl⟩, ⟨_, h2, rfl, rfl⟩⟩, fun x hx => ?_, q⟩
      have up : s1.heap.objs.size ≤ x := by
        rcases (by simpa using hx : x = s1.heap.objs.size ∨ x = s1.heap.objs.size + 1 ∨ x = s1.heap.objs.size + 2 ∨ x = s1.heap.objs.size + 3 ∨ x = s1.heap.objs.size + 4) with z | z | z | z | z
        · rw [z]; exact Nat.le_refl _
        · rw [z]; exact Nat.le_add_right _ _
        · rw [z]; exact Nat.le_add_right _ _
        · rw [z]; exact Nat.le_add_right _ _
        · rw [z]; exact Nat.le_add_right _ _
      exact I1.fpOk up (I1.hok.fresh up)
end G1
/-! one of two readings; zips as walks -/
namespace G1
open PySem PySem.Spec PyProof.Rows L2 RZ
section
variable {X : Cx}
theorem PE.or {e : Expr} {t1 t2 : TE} (a : PE X e t1) (b : PE X e t2) : PE X e (fun σ H Q => t1 σ H Q ∨ t2 σ H Q) :=
  ⟨fun pins s σ H Q I h => h.elim (fun h => a.run pins s σ H Q I h) (fun h => b.run pins s σ H Q I h)⟩
theorem PI.or {tg e : Expr} {t1 t2 : TI} (a : PI X tg e t1) (b : PI X tg e t2) : PI X tg e (fun σ H R => t1 σ H R ∨ t2 σ H R) :=
  ⟨fun pins s σ H R I h => h.elim (fun h => a.run pins s σ H R I h) (fun h => b.run pins s σ H R I h)⟩
end
section
variable {K : PySem.W.Frag} {a c : Addr} {xs ys : List V}
theorem walk_zipM {n : Nat} (hn : n = min xs.length ys.length) : Walk (ItzM K a c) n (fun H => SqT K H a xs ∧ SqL K H c ys) (YPair (fun i => xs[i]?) (fun i => ys[i]?)) := by
  subst hn
  refine ⟨fun i H hi q => ⟨xs, ys, xs[i]'(by omega), ys[i]'(by omega), q.1, q.2, by simp [show i < xs.length by omega], by simp [show i < ys.length by omega]⟩, fun H q => ⟨xs, ys, q.1, q.2, rfl⟩, fun i H v H' hi q y => ?_⟩
  obtain ⟨T, x, y, rfl, hT, rfl, h1, h2⟩ := y
  exact ⟨T, x, y, rfl, hT, rfl, h1 xs q.1, h2 ys q.2⟩
theorem walk_zipT {n : Nat} (hn : n = min xs.length ys.length) : Walk (ItzT K a c) n (fun H => SqT K H a xs ∧ SqT K H c ys) (YPair (fun i => xs[i]?) (fun i => ys[i]?)) := by
  subst hn
  refine ⟨fun i H hi q => ⟨xs, ys, xs[i]'(by omega), ys[i]'(by omega), q.1, q.2, by simp [show i < xs.length by omega], by simp [show i < ys.length by omega]⟩, fun H q => ⟨xs, ys, q.1, q.2, by omega⟩, fun i H v H' hi q y => ?_⟩
  obtain ⟨T, x, y, rfl, hT, rfl, h1, h2⟩ := y
  exact ⟨T, x, y, rfl, hT, rfl, h1 xs q.1, h2 ys q.2⟩
end
end G1
/-! repr of small numbers, tuples of them, tables beside one another -/
namespace G1
open PySem PySem.Spec PyProof.Rows L2
theorem small_int {i : Int} (h0 : 0 ≤ i) (h1 : i ≤ 10000) : Small (.int i) := by
  refine ⟨?_, rfl, by simp [PyData.depth], ?_, ?_⟩
  · simp only [PyData.showable]
    exact decide_eq_true (log_small h0 (by omega))
  · show decide ((PyData.shown (.int i)).length ≤ 8) = true
    rw [decide_eq_true_eq]
    have e := PyProof.Rows.toString_length_le h0 (k := 5) (by decide) (by omega)
    have e2 : (PyData.shown (.int i)).length = (Str.ofString (toString i)).length := rfl
    omega
  · show (if i == 0 then 0 else i.natAbs.log2 + 1) ≤ 20000
    split
    · omega
    · have z : i.natAbs ≠ 0 := fun e => by
        rename_i hz
        exact hz (by rw [Int.natAbs_eq_zero.mp e]; rfl)
      have : i.natAbs.log2 < 64 := (Nat.log2_lt z).mpr (by omega)
      omega
/-- a tuple of small data -/
theorem small_tup {ds : List PyData} (h : ∀ d ∈ ds, Small d ∧ d.weight ≤ 100 ∧ d.depth ≤ 3) (hl : ds.length ≤ 20) : Small (.tuple ds) := by
  obtain ⟨h1, h2, h3, h4, h5⟩ := small_all ds fun d hd => (h d hd).1
  have w : ∀ ds : List PyData, (∀ d ∈ ds, d.weight ≤ 100 ∧ d.depth ≤ 3) → PyData.weightAll ds ≤ 101 * ds.length ∧ PyData.depthAll ds ≤ 3 := by
    intro ds
    induction ds with
    | nil => intro _; simp [PyData.weightAll, PyData.depthAll]
    | cons d ds ih =>
      intro hd
      have a := hd d List.mem_cons_self
      have b := ih fun e he => hd e (List.mem_cons_of_mem _ he)
      refine ⟨?_, ?_⟩
      · simp only [PyData.weightAll, List.length_cons]
        omega
      · simp only [PyData.depthAll]
        omega
  obtain ⟨w1, w2⟩ := w ds fun d hd => (h d hd).2
  refine ⟨?_, ?_, ?_, ?_, ?_⟩
  · simp only [PyData.showable]; exact h1
  · simp only [PyData.hasDict]; exact h2
  · simp only [PyData.depth]; omega
  · simp only [PyData.leavesShort]; exact h4
  · simp only [PyData.weight]
    have : 101 * ds.length ≤ 101 * 20 := Nat.mul_le_mul_left _ hl
    omega
theorem int_fit {i : Int} (h0 : 0 ≤ i) (h1 : i ≤ 10000) : Small (.int i) ∧ PyData.weight (.int i) ≤ 20 ∧ PyData.depth (.int i) ≤ 1 := by
  refine ⟨small_int h0 h1, ?_, by simp [PyData.depth]⟩
  show (if i == 0 then 0 else i.natAbs.log2 + 1) ≤ 20
  split
  · omega
  · have z : i.natAbs ≠ 0 := fun e => by
      rename_i hz
      exact hz (by rw [Int.natAbs_eq_zero.mp e]; rfl)
    have : i.natAbs.log2 < 14 := (Nat.log2_lt z).mpr (by omega)
    omega
def dKs (ks : List Nat) : PyData := .tuple (ks.map fun k => PyData.int (k : Nat))
theorem dp_ks {K : PySem.W.Frag} {H : Hp} : ∀ ks : List Nat, DpAll K H (ks.map fun k => V.int (k : Nat)) (ks.map fun k => PyData.int (k : Nat))
  | [] => .nil
  | k :: ks => .cons (.int _) (dp_ks ks)
theorem small_ks {ks : List Nat} (h : ∀ k ∈ ks, k ≤ 10000) (hl : ks.length ≤ 20) : Small (dKs ks) := small_tup (fun d hd => by
  obtain ⟨k, hk, rfl⟩ := List.mem_map.mp hd
  have a := int_fit (i := (k : Int)) (by omega) (by have := h k hk; omega)
  exact ⟨a.1, by have := a.2.1; omega, by have := a.2.2; omega⟩) (by rw [List.length_map]; exact hl)

/-- two tables -/
@[irreducible] def dT2 (a b c d : List Bool) : PyData := .list [dTab a b, dTab c d]
theorem repr_t2 {K : PySem.W.Frag} {H : Hp} {R : PyData → Prop} {l p p' : Addr} {a b c d : List Bool} (e : H l = some (.lst [.ref p, .ref p'])) (h1 : H p = some (.tup [.str (B a), .str (B b)])) (h2 : H p' = some (.tup [.str (B c), .str (B d)]))
    (l1 : a.length ≤ 5000) (l2 : b.length ≤ 5000) (l3 : c.length ≤ 5000) (l4 : d.length ≤ 5000) (q : R (dT2 a b c d)) :
    ∃ (a' : Addr) (d' : PyData), [V.ref l] = [V.ref a'] ∧ Dp K H (.ref a') d' ∧ d'.showable = true ∧ d'.hasDict = false ∧ d'.depth ≤ 60 ∧ d'.shown.length ≤ sizeLine ∧ R d' := by
  unfold dT2 at q
  exact repr_items [dTab a b, dTab c d] e (.cons (dp_tab h1) (.cons (dp_tab h2) .nil)) (List.forall_mem_cons.mpr ⟨small_tab l1 l2, List.forall_mem_cons.mpr ⟨small_tab l3 l4, fun _ z => by cases z⟩⟩) (by simp) q
/-- a tuple of small numbers -/
theorem repr_ks {K : PySem.W.Frag} {H : Hp} {R : PyData → Prop} {p : Addr} {ks : List Nat} (h1 : H p = some (.tup (ks.map fun k => V.int (k : Nat)))) (h : ∀ k ∈ ks, k ≤ 10000) (hl : ks.length ≤ 20) (q : R (dKs ks)) :
    ∃ (a' : Addr) (d' : PyData), [V.ref p] = [V.ref a'] ∧ Dp K H (.ref a') d' ∧ d'.showable = true ∧ d'.hasDict = false ∧ d'.depth ≤ 60 ∧ d'.shown.length ≤ sizeLine ∧ R d' := by
  have sm := small_ks h hl
  exact go_repr (dKs ks) (.tup (sqT_of h1) (dp_ks ks)) sm.sh sm.nd (Nat.le_trans sm.dp (by decide)) sm.lv (Nat.le_trans sm.wt (by decide)) q
/-- a tuple of small numbers, its text never unfolded -/
@[irreducible] def dKi (ks : List Nat) : PyData := dKs ks
theorem repr_ki {K : PySem.W.Frag} {H : Hp} {R : PyData → Prop} {p : Addr} {ks : List Nat} (h1 : H p = some (.tup (ks.map fun k => V.int (k : Nat)))) (h : ∀ k ∈ ks, k ≤ 10000) (hl : ks.length ≤ 20) (q : R (dKi ks)) :
    ∃ (a' : Addr) (d' : PyData), [V.ref p] = [V.ref a'] ∧ Dp K H (.ref a') d' ∧ d'.showable = true ∧ d'.hasDict = false ∧ d'.depth ≤ 60 ∧ d'.shown.length ≤ sizeLine ∧ R d' := by
  unfold dKi at q
  exact repr_ks h1 h hl q

/-- figures in a tuple, many of them -/
theorem dig_all : ∀ l : List Nat, (∀ k ∈ l, k ≤ 9) → PyData.showableAll (l.map fun k => PyData.int (k : Nat)) = true ∧ PyData.hasDictAll (l.map fun k => PyData.int (k : Nat)) = false ∧ PyData.depthAll (l.map fun k => PyData.int (k : Nat)) = 0 ∧
    PyData.leavesShortAll 8 (l.map fun k => PyData.int (k : Nat)) = true ∧ PyData.weightAll (l.map fun k => PyData.int (k : Nat)) ≤ 21 * l.length
  | [], _ => by simp [PyData.showableAll, PyData.hasDictAll, PyData.depthAll, PyData.leavesShortAll, PyData.weightAll]
  | k :: l, h => by
    obtain ⟨h1, h2, h3, h4, h5⟩ := dig_all l fun e he => h e (List.mem_cons_of_mem _ he)
    have k9 := h k List.mem_cons_self
    obtain ⟨a, w, d⟩ := int_fit (i := (k : Int)) (by omega) (by omega)
    have a1 := a.sh
    have a4 := a.lv
    refine ⟨?_, ?_, ?_, ?_, ?_⟩
    · simp only [List.map_cons, PyData.showableAll, h1, a1, Bool.and_self]
    · simp [PyData.hasDictAll, PyData.hasDict, h2]
    · simp [PyData.depthAll, PyData.depth, h3]
    · simp only [List.map_cons, PyData.leavesShortAll, h4, a4, Bool.and_self]
    · simp only [List.map_cons, PyData.weightAll, List.length_cons]
      omega
@[irreducible] def dDg (l : List Nat) : PyData := dKs l
theorem repr_dg {K : PySem.W.Frag} {H : Hp} {R : PyData → Prop} {p : Addr} {l : List Nat} (h1 : H p = some (.tup (l.map fun k => V.int (k : Nat)))) (h : ∀ k ∈ l, k ≤ 9) (hl : l.length ≤ 40000) (q : R (dDg l)) :
    ∃ (a' : Addr) (d' : PyData), [V.ref p] = [V.ref a'] ∧ Dp K H (.ref a') d' ∧ d'.showable = true ∧ d'.hasDict = false ∧ d'.depth ≤ 60 ∧ d'.shown.length ≤ sizeLine ∧ R d' := by
  unfold dDg at q
  obtain ⟨g1, g2, g3, g4, g5⟩ := dig_all l h
  refine go_repr (dKs l) (.tup (sqT_of h1) (dp_ks l)) ?_ ?_ ?_ ?_ ?_ q
  · simp only [dKs, PyData.showable]; exact g1
  · simp only [dKs, PyData.hasDict]; exact g2
  · simp only [dKs, PyData.depth, g3]; decide
  · simp only [dKs, PyData.leavesShort]; exact g4
  · simp only [dKs, PyData.weight]; omega
@[irreducible] def dDg2 (l k : List Nat) : PyData := .list [dKs l, dKs k]
theorem repr_dg2 {K : PySem.W.Frag} {H : Hp} {R : PyData → Prop} {o p p' : Addr} {l k : List Nat} (h0 : H o = some (.lst [.ref p, .ref p'])) (h1 : H p = some (.tup (l.map fun k => V.int (k : Nat)))) (h2 : H p' = some (.tup (k.map fun k => V.int (k : Nat))))
    (hl9 : ∀ x ∈ l, x ≤ 9) (hk9 : ∀ x ∈ k, x ≤ 9) (hl : l.length ≤ 10000) (hk : k.length ≤ 10000) (q : R (dDg2 l k)) :
    ∃ (a' : Addr) (d' : PyData), [V.ref o] = [V.ref a'] ∧ Dp K H (.ref a') d' ∧ d'.showable = true ∧ d'.hasDict = false ∧ d'.depth ≤ 60 ∧ d'.shown.length ≤ sizeLine ∧ R d' := by
  unfold dDg2 at q
  obtain ⟨g1, g2, g3, g4, g5⟩ := dig_all l hl9
  obtain ⟨k1, k2, k3, k4, k5⟩ := dig_all k hk9
  refine go_repr (.list [dKs l, dKs k]) (.lst (.inl (.inl h0)) (.cons (.tup (sqT_of h1) (dp_ks l)) (.cons (.tup (sqT_of h2) (dp_ks k)) .nil))) ?_ ?_ ?_ ?_ ?_ q
  · simp only [dKs, PyData.showable, PyData.showableAll, g1, k1, Bool.and_self]
  · simp only [dKs, PyData.hasDict, PyData.hasDictAll, g2, k2, Bool.or_self]
  · simp only [dKs, PyData.depth, PyData.depthAll, g3, k3]; decide
  · simp only [dKs, PyData.leavesShort, PyData.leavesShortAll, g4, k4, Bool.and_self]
  · simp only [dKs, PyData.weight, PyData.weightAll]; omega

/-- two small numbers in a list -/
@[irreducible] def dI2 (a b : Nat) : PyData := .list [.int (a : Nat), .int (b : Nat)]
theorem repr_i2 {K : PySem.W.Frag} {H : Hp} {R : PyData → Prop} {o : Addr} {a b : Nat} (h0 : H o = some (.lst [.int (a : Nat), .int (b : Nat)])) (ha : a ≤ 10000) (hb : b ≤ 10000) (q : R (dI2 a b)) :
    ∃ (a' : Addr) (d' : PyData), [V.ref o] = [V.ref a'] ∧ Dp K H (.ref a') d' ∧ d'.showable = true ∧ d'.hasDict = false ∧ d'.depth ≤ 60 ∧ d'.shown.length ≤ sizeLine ∧ R d' := by
  unfold dI2 at q
  exact repr_items [.int (a : Nat), .int (b : Nat)] h0 (.cons (.int _) (.cons (.int _) .nil)) (List.forall_mem_cons.mpr ⟨small_int (by omega) (by omega), List.forall_mem_cons.mpr ⟨small_int (by omega) (by omega), fun _ z => by cases z⟩⟩) (by simp) q
end G1
/-! repr of whole data with dicts in it: address 1 is a dict of the base, so nothing that is tracked stands there -/
namespace G1
open PySem PySem.Spec PyProof.Rows L2
def HasSys (base : Heap) : Prop := ∃ mm, base.Ns sysModules mm
def kD : Key → PyData
  | .inl i => .int i
  | .inr x => .str x
mutual
inductive DpD (K : PySem.W.Frag) (H : Hp) : V → PyData → Prop
  | non : DpD K H .non .none
  | bl (b : Bool) : DpD K H (.bl b) (.bool b)
  | int (i : Int) : DpD K H (.int i) (.int i)
  | str (x : Str) : DpD K H (.str x) (.str x)
  | lst {a : Addr} {xs : List V} {ds : List PyData} : SqL K H a xs → DpDAll K H xs ds → DpD K H (.ref a) (.list ds)
  | tup {a : Addr} {xs : List V} {ds : List PyData} : SqT K H a xs → DpDAll K H xs ds → DpD K H (.ref a) (.tuple ds)
  | dct {a : Addr} {kvs : List (Key × V)} {ds : List (PyData × PyData)} : H a = some (.dK kvs) → DpDKv K H kvs ds → DpD K H (.ref a) (.dict ds)
inductive DpDAll (K : PySem.W.Frag) (H : Hp) : List V → List PyData → Prop
  | nil : DpDAll K H [] []
  | cons {v : V} {vs : List V} {d : PyData} {ds : List PyData} : DpD K H v d → DpDAll K H vs ds → DpDAll K H (v :: vs) (d :: ds)
inductive DpDKv (K : PySem.W.Frag) (H : Hp) : List (Key × V) → List (PyData × PyData) → Prop
  | nil : DpDKv K H [] []
  | cons {k : Key} {v : V} {kvs : List (Key × V)} {d : PyData} {ds : List (PyData × PyData)} : DpD K H v d → DpDKv K H kvs ds → DpDKv K H ((k, v) :: kvs) ((kD k, d) :: ds)
end
section
variable {X : Cx} {pins : List (Addr × Obj)} {σ : L2.St} {H : Hp} {s : Shared}
theorem sys_not {a : Addr} {o : Obj} {vs : Array Value} {n : Nat} (I : Inv X pins σ H s) (hb : HasSys X.base) (e : s.heap.get? a = some o) (d : o.data = .seq vs n) : a ≠ sysModules := by
  rintro rfl
  obtain ⟨mm, o', es, ep, e', d', _⟩ := hb
  rw [(I.bs _ o' e').1] at e
  cases e
  rw [d'] at d
  cases d
theorem key_reads {h : Heap} {k : Key} {v : Value} (e : keyIs k v = true) : Reads h v (kD k) [] := by
  rcases keyIs_shape e with ⟨i, t, rfl, rfl⟩ | ⟨x, t, rfl, rfl⟩
  · exact Reads.int i t
  · exact Reads.str x t
mutual
theorem DpD.reads (I : Inv X pins σ H s) (hb : HasSys X.base) : ∀ {v : V} {d : PyData} (u : Value), DpD X.K H v d → RelV v u → ∃ as, Reads s.heap u d as ∧ sysModules ∉ as
  | _, _, _, .non, r => by
    cases r
    exact ⟨_, Reads.none, List.not_mem_nil⟩
  | _, _, _, .bl b, r => by
    cases r
    exact ⟨_, Reads.bool b, List.not_mem_nil⟩
  | _, _, _, .int i, r => by
    obtain ⟨t, rfl⟩ := r
    exact ⟨_, Reads.int i t, List.not_mem_nil⟩
  | _, _, _, .str x, r => by
    obtain ⟨t, rfl⟩ := r
    exact ⟨_, Reads.str x t, List.not_mem_nil⟩
  | _, _, _, .lst hs ha, r => by
    cases r
    obtain ⟨its, rv, ⟨o, n, ho, hc, _, hd⟩, _⟩ := I.list hs
    obtain ⟨as, hr, hn⟩ := DpDAll.reads I hb its ha rv
    exact ⟨_, Reads.list ho hc hd hr, fun m => (List.mem_cons.mp m).elim (fun z => sys_not I hb ho hd z.symm) hn⟩
  | _, _, _, .tup hs ha, r => by
    cases r
    obtain ⟨its, rv, ⟨o, ho, hc, n, hd⟩, _⟩ := I.tuple hs
    obtain ⟨as, hr, hn⟩ := DpDAll.reads I hb its ha rv
    exact ⟨_, Reads.tuple ho hc hd hr, hn⟩
  | _, _, _, .dct hd hk, r => by
    cases r
    obtain ⟨_, ns, vs, kv, o, es, ep, ho, ex, hdat, _, pr, _⟩ := dk_of I.hok hd
    obtain ⟨⟨as, h1, n1⟩, bs, h2, n2⟩ := DpDKv.reads I hb _ _ hk kv pr
    refine ⟨_, Reads.dict ho ex.1 hdat h1 h2, ?_⟩
    intro m
    rcases List.mem_append.mp m with m | m
    · rcases List.mem_cons.mp m with z | z
      · rw [← z] at ns
        exact absurd ns (by decide)
      · exact n1 z
    · exact n2 m
theorem DpDAll.reads (I : Inv X pins σ H s) (hb : HasSys X.base) : ∀ {vs : List V} {ds : List PyData} (us : List Value), DpDAll X.K H vs ds → Vals vs us → ∃ as, ReadsAll s.heap us ds as ∧ sysModules ∉ as
  | _, _, _, .nil, r => by
    cases r
    exact ⟨_, ReadsAll.nil, List.not_mem_nil⟩
  | _, _, _, .cons h1 h2, r => by
    cases r with
    | cons r1 r2 =>
      obtain ⟨as, q1, n1⟩ := DpD.reads I hb _ h1 r1
      obtain ⟨bs, q2, n2⟩ := DpDAll.reads I hb _ h2 r2
      exact ⟨_, ReadsAll.cons q1 q2, fun m => (List.mem_append.mp m).elim n1 n2⟩
theorem DpDKv.reads (I : Inv X pins σ H s) (hb : HasSys X.base) : ∀ {kvs : List (Key × V)} {ds : List (PyData × PyData)} (vs : List (Key × Value)) (es : List DictEntry), DpDKv X.K H kvs ds → KV kvs vs → Pairs (mixKind X.prog X.w) es vs →
    (∃ as, ReadsAll s.heap (es.map (·.key)) (ds.map (·.1)) as ∧ sysModules ∉ as) ∧ ∃ bs, ReadsAll s.heap (es.map (·.val)) (ds.map (·.2)) bs ∧ sysModules ∉ bs
  | _, _, _, _, .nil, kv, pr => by
    cases kv
    cases pr
    exact ⟨⟨_, ReadsAll.nil, List.not_mem_nil⟩, _, ReadsAll.nil, List.not_mem_nil⟩
  | _, _, _, _, .cons h1 h2, kv, pr => by
    cases kv with
    | cons r kv2 =>
      cases pr with
      | cons e1 e2 pr2 =>
        obtain ⟨e0, rv⟩ := r
        obtain ⟨⟨as, q1, n1⟩, bs, q2, n2⟩ := DpDKv.reads I hb _ _ h2 kv2 pr2
        rw [← e2] at rv
        obtain ⟨cs, q3, n3⟩ := DpD.reads I hb _ h1 rv
        have e1' : keyIs _ _ = true := e1
        rw [← e0] at e1'
        exact ⟨⟨_, ReadsAll.cons (key_reads e1') q1, fun m => (List.mem_append.mp m).elim List.not_mem_nil n1⟩, _, ReadsAll.cons q3 q2, fun m => (List.mem_append.mp m).elim n3 n2⟩
end
/-- repr of a list, a tuple or a dict of data, dicts in it too -/
def rReprD (K : PySem.W.Frag) : List V → Hp → VK → Prop := fun xs H Q => ∃ (a : Addr) (d : PyData), xs = [.ref a] ∧ DpD K H (.ref a) d ∧ d.showable = true ∧ d.depth ≤ 60 ∧ d.shown.length ≤ sizeLine ∧ Q (.str d.shown) H
theorem call_reprDD (hb : HasSys X.base) (hgd : X.A.guards = some []) (hu : X.A.units + 64 < cLine) : CallR X (.builtin "repr") (rReprD X.K) := by
  intro pins s σ H xs us Q I r h
  obtain ⟨a, d, rfl, hd, hs, hdp, hz, q⟩ := h
  obtain ⟨u, rfl, ru⟩ := vals1 r
  obtain rfl : u = Value.ref a := ru
  obtain ⟨as, r1, hn⟩ := DpD.reads I hb (.ref a) hd rfl
  refine repr_of_reads' r1 hs (fun _ => hn) hgd (by omega) (fun _ _ e => e) (fun h' tu tk hk => ?_) hz
  refine ⟨.str d.shown, H, ?_, ⟨tu, rfl⟩, q⟩
  exact I.kept (t' := tk) hk
end
theorem enterGS {P : Program} {w : World} {K : PySem.W.Frag} {mg mb : Str → Option Value} {k : Nat} {fa a : Addr} {fd : FuncData} {x : Str} {sp : Sp} {s₁ : Shared} {vs : List Value} {ns : List Int}
    (inK : K.In s₁.heap) (hns : s₁.heap.Ns mainGlobals mg) (hbn : s₁.heap.Ns builtinsNs mb) (hbb : ∀ x : Str, x ≠ "__name__" → mb x = bootBuiltins x) (hlim : s₁.heap.NoLimit) (hsy : HasSys s₁.heap) (hg0 : s₁.gens = #[])
    (ha : s₁.heap.get? a = some { cls := .type "list", data := .seq vs.toArray }) (hi : IntsAre vs ns) (hl : ns.length ≤ sizeLine) (hr : Room k callerA)
    (F : ∀ base : Heap, K.In base → base.Ns mainGlobals mg → HasSys base → FnG P w K mg base k fa fd [x] sp)
    (hbind : ∀ (s : Shared) (u : Value), BindsTo s fd ⟨[u], []⟩ [(x, u)])
    (hsp : ∀ H : Hp, Only H → SqL K H a (ns.map V.int) → sp [.ref a] H (fun v _ => v = .bl true) fun _ _ _ => False) :
    codeAny (model P w) callerA (.call (.ref fa) ⟨[.ref a], []⟩)
      (fun r s' => r = .ok (.ret (.bool true)) ∧ OldK s₁.heap s'.heap ∧ s'.os = s₁.os ∧ AllBare s'.gens) s₁ := by
  have rv := vals_ints hi
  have lv := hi.length
  suffices core : ∀ H : Hp, Only H → SqL K H a (ns.map V.int) → HOk P w H s₁.heap → (∀ b, H b ≠ none → b = a ∧ K.lookup a = none) →
      codeAny (model P w) callerA (.call (.ref fa) ⟨[.ref a], []⟩)
        (fun r s' => r = .ok (.ret (.bool true)) ∧ OldK s₁.heap s'.heap ∧ s'.os = s₁.os ∧ AllBare s'.gens) s₁ by
    by_cases hk : K.lookup a = none
    · refine core (fun b => if b = a then some (.frz { cls := .type "list", data := .seq vs.toArray } (.lst (ns.map V.int))) else none) ?_ (Or.inl (Or.inr ⟨_, if_pos rfl⟩)) ?_ ?_
      · intro b
        by_cases hb : b = a
        · exact Or.inr ⟨_, _, if_pos hb⟩
        · exact Or.inl (if_neg hb)
      · intro b u z
        dsimp only at z
        by_cases hb : b = a
        · rw [if_pos hb] at z
          cases z
          subst hb
          exact ⟨ha, by rw [List.length_map]; exact hl, vs, _, rv, ha⟩
        · rw [if_neg hb] at z
          cases z
      · intro b z
        by_cases hb : b = a
        · exact ⟨hb, hk⟩
        · exact absurd (if_neg hb) z
    · obtain ⟨o, ho⟩ := Option.ne_none_iff_exists'.mp hk
      have e := inK a o ho
      rw [ha] at e
      cases e
      exact core (fun _ => none) (fun _ => Or.inl rfl) (Or.inr ⟨_, vs.toArray, _, ho, rfl, rfl, rfl, by rw [List.size_toArray, lv]; exact hl, by simpa using rv⟩)
        (fun b u z => by cases z) (fun b z => absurd rfl z)
  intro H hO hS hok hA
  have untr : ∀ {b : Addr} {o : Obj} {es : Array DictEntry} {ep : Nat}, s₁.heap.get? b = some o → o.data = .dict es ep → H b = none := by
    intro b o es ep e d
    by_cases q : H b = none
    · exact q
    · obtain ⟨rfl, _⟩ := hA b q
      rw [ha] at e
      cases e
      exact nomatch d
  have tohid : ∀ {b : Addr} {m : Str → Option Value}, s₁.heap.Ns b m → (hidT s₁.heap H).Ns b m := by
    rintro b m ⟨o, es, ep, e, d, r⟩
    exact ⟨o, es, ep, hidT_get e (untr e d), d, r⟩
  have hKb : K.In (hidT s₁.heap H) := by
    intro b o e
    refine hidT_get (inK b o e) ?_
    by_cases q : H b = none
    · exact q
    · obtain ⟨rfl, z⟩ := hA b q
      rw [z] at e
      cases e
  obtain ⟨mc, l1, l2⟩ := hlim
  have hM : Mod K mg (hidT s₁.heap H) := ⟨hKb, tohid hns, ⟨mb, tohid hbn, hbb⟩, ⟨mc, tohid l1, l2⟩⟩
  have e0 : Env0 P w K mg (hidT s₁.heap H) callerA [] s₁ H :=
    ⟨rfl, hM, fun b o e => of_hidT e, Nat.le_of_eq (hidT_size _ _), trivial, fun b hb => (List.not_mem_nil hb).elim, hok, .of_eq hg0⟩
  refine codeAny_mono ((F _ hKb (tohid hns) ⟨_, tohid hsy.choose_spec⟩).go callerA [] s₁ H ⟨[.ref a], []⟩ [.ref a] [.ref a] _ _ rfl hr e0 (hbind s₁ (.ref a)) (.cons rfl .nil) (hsp H hO hS)) ?_
  intro r s' h
  cases r with
  | error e => exact h.elim
  | ok fl =>
    cases fl with
    | next => exact h.elim
    | brk => exact h.elim
    | cont => exact h.elim
    | ret u =>
      obtain ⟨v, H', os, bare, un, hok', r', q⟩ := h
      subst q
      obtain rfl : u = Value.bool true := r'
      refine ⟨rfl, OldK.of_keep (fun b o e => ?_), os, bare⟩
      rcases hO b with z | ⟨ob, xs, z⟩
      · exact un.keep b o e z (fun y => (List.not_mem_nil y).elim) List.not_mem_nil
      · obtain ⟨e1, _⟩ := hok b _ z
        obtain ⟨e2, _⟩ := hok' b _ (un.frzs b ob _ z)
        rw [e] at e1
        cases e1
        exact e2

theorem walkGS {l : PySem.W.OpenLaw} {n k : Nat} {q : Program} {loose : List Str} {XP : (Str → Option Value) → Heap → Prop} {YP : World → Heap → Prop} {d : DefRec} {K : Params → PySem.W.Frag} {sp : PySem.W.Frag → Sp} {x : Str}
    (hq : importsNone q = true) (hn : l.most = some n) (hn2 : n ≤ sizeLine) (hdf : d.params.defaults = []) (hr : Room k callerA)
    (hY : ∀ (w : World) (h : Heap), YP w h → (K w.params).In h)
    (F : ∀ (w : World) (mg : Str → Option Value) (fa : Addr) (h : Heap), (K w.params).In h → h.Ns mainGlobals mg → mg d.name = some (.ref fa) →
      ∃ fd : FuncData, (∀ (s : Shared) (u : Value), BindsTo s fd ⟨[u], []⟩ [(x, u)]) ∧
        ∀ base : Heap, (K w.params).In base → base.Ns mainGlobals mg → HasSys base → FnG l.prog w (K w.params) mg base k fa fd [x] (sp (K w.params)))
    (hsp : ∀ (K : PySem.W.Frag) (H : Hp) (a : Addr) (ns : List Int), ns.length ≤ n → Only H → SqL K H a (ns.map V.int) → sp K [.ref a] H (fun v _ => v = .bl true) fun _ _ _ => False) :
    PySem.W.WalkO q loose XP YP l.row.toRowW d [] (fun f vs => PySem.call f vs) := by
  refine Att.attach_call hn hdf ?_
  intro w s₀ s₁ mg mb fa o pm cd doc a vs ns G Y ho hd hcd hmg hobj hints hlen hg0
  have inK := hY w _ Y
  obtain ⟨fd, hb, hF⟩ := F w mg fa _ inK G.T.g hmg
  exact enterGS inK G.T.g G.T.b G.T.builtins G.T.nolimit (let ⟨mm, y, _⟩ := (G.T.seer hq).mods; ⟨mm, y⟩) hg0 hobj hints (Nat.le_trans hlen hn2) hr hF hb (fun H hO hS => hsp _ H a ns hlen hO hS)
end G1
/-! texts of any signs: nothing but noughts and ones in them -/
namespace G1
open PySem PySem.Spec PyProof.Rows L2
def plainL (l : List Nat) : Bool := l.all fun k => k == 48 || k == 49
/-- nothing but 0 and 1 -/
def plainS (x : Str) : Bool := plainL x.cps.toList
theorem cnt_cons' (c k : Nat) (l : List Nat) : cnt c (k :: l) = (if k = c then 1 else 0) + cnt c l := by
  first | exact cnt_cons .. | (rw [cnt_cons]; done) | (rw [cnt_cons]; simp; done)
theorem cnt_plain : ∀ l : List Nat, (cnt 48 l + cnt 49 l = (l.length : Int) ↔ plainL l = true) ∧ cnt 48 l + cnt 49 l ≤ (l.length : Int)
  | [] => by
    have e : ∀ c, cnt c [] = 0 := fun c => rfl
    rw [e, e]
    simp [plainL]
  | k :: l => by
    obtain ⟨h1, h2⟩ := cnt_plain l
    rw [cnt_cons', cnt_cons', List.length_cons]
    have e : plainL (k :: l) = ((k == 48 || k == 49) && plainL l) := rfl
    by_cases a : k = 48
    · subst a
      rw [e, if_pos rfl, if_neg (by decide), show ((48 : Nat) == 48 || (48 : Nat) == 49) = true from rfl, Bool.true_and, ← h1]
      constructor
      · constructor <;> intro h <;> omega
      · omega
    · by_cases b : k = 49
      · subst b
        rw [e, if_neg (by decide), if_pos rfl, show ((49 : Nat) == 48 || (49 : Nat) == 49) = true from rfl, Bool.true_and, ← h1]
        constructor
        · constructor <;> intro h <;> omega
        · omega
      · rw [e, if_neg a, if_neg b, show (k == 48 || k == 49) = false by simp [a, b], Bool.false_and]
        constructor
        · constructor
          · intro h
            omega
          · intro h
            cases h
        · omega
theorem count_plain (x : Str) : Txt.count x ⟨#[48]⟩ + Txt.count x ⟨#[49]⟩ = (x.length : Int) ↔ plainS x = true := by
  rw [count_cnt, count_cnt]
  have e : (x.length : Int) = (x.cps.toList.length : Int) := by rw [Array.length_toList]; rfl
  rw [e]
  exact (cnt_plain x.cps.toList).1
theorem strike_plain (x : Str) : Txt.replace (Txt.replace x ⟨#[48]⟩ ⟨#[]⟩) ⟨#[49]⟩ ⟨#[]⟩ = ⟨#[]⟩ ↔ plainS x = true := by
  have e : (Txt.replace (Txt.replace x ⟨#[48]⟩ ⟨#[]⟩) ⟨#[49]⟩ ⟨#[]⟩).cps.toList = List.filter (fun y => y != 49) (List.filter (fun y => y != 48) x.cps.toList) :=
    (replace_strikes (Txt.replace x ⟨#[48]⟩ ⟨#[]⟩) 49).trans (by rw [replace_strikes])
  generalize Txt.replace (Txt.replace x ⟨#[48]⟩ ⟨#[]⟩) ⟨#[49]⟩ ⟨#[]⟩ = z at e
  obtain ⟨⟨zl⟩⟩ := z
  have e' : zl = List.filter (fun y => y != 49) (List.filter (fun y => y != 48) x.cps.toList) := e
  rw [show ((⟨⟨zl⟩⟩ : Str) = ⟨#[]⟩ ↔ zl = []) from ⟨fun h => by injection h with h; injection h, fun h => by rw [h]⟩, e', List.filter_filter, List.filter_eq_nil_iff]
  unfold plainS plainL
  rw [List.all_eq_true]
  constructor
  · intro h k hk
    have := h k hk
    simp at this ⊢
    omega
  · intro h k hk
    have := h k hk
    simp at this ⊢
    omega
end G1
/-! things of all kinds, apart from the well -/
namespace G1
open PySem PySem.Spec PyProof.Rows L2
mutual
inductive Th (w g : Addr) (H : Hp) : V → PyData → Prop
  | non : Th w g H .non .none
  | bl (b : Bool) : Th w g H (.bl b) (.bool b)
  | int (i : Int) : Th w g H (.int i) (.int i)
  | str (x : Str) : Th w g H (.str x) (.str x)
  | lst {a : Addr} {xs : List V} {ds : List PyData} : a ≠ w → a ≠ g → H a = some (.lst xs) → ThAll w g H xs ds → Th w g H (.ref a) (.list ds)
  | tup {a : Addr} {xs : List V} {ds : List PyData} : H a = some (.tup xs) → ThAll w g H xs ds → Th w g H (.ref a) (.tuple ds)
  | dct {a : Addr} {kvs : List (Key × V)} {ds : List (PyData × PyData)} : a ≠ w → a ≠ g → H a = some (.dK kvs) → ThKv w g H kvs ds → Th w g H (.ref a) (.dict ds)
inductive ThAll (w g : Addr) (H : Hp) : List V → List PyData → Prop
  | nil : ThAll w g H [] []
  | cons {v : V} {vs : List V} {d : PyData} {ds : List PyData} : Th w g H v d → ThAll w g H vs ds → ThAll w g H (v :: vs) (d :: ds)
inductive ThKv (w g : Addr) (H : Hp) : List (Key × V) → List (PyData × PyData) → Prop
  | nil : ThKv w g H [] []
  | cons {k : Key} {v : V} {kvs : List (Key × V)} {d : PyData} {ds : List (PyData × PyData)} : Th w g H v d → ThKv w g H kvs ds → ThKv w g H ((k, v) :: kvs) ((kD k, d) :: ds)
end
section
variable {w g : Addr} {H H' : Hp}
mutual
theorem Th.go (W : WellAt w g H) (s : Go w g H H') : ∀ {v : V} {d : PyData}, Th w g H v d → Th w g H' v d
  | _, _, .non => .non
  | _, _, .bl b => .bl b
  | _, _, .int i => .int i
  | _, _, .str x => .str x
  | _, _, .lst n1 n2 h t => .lst n1 n2 (s _ _ n1 n2 h) (ThAll.go W s t)
  | _, _, .tup h t => .tup ((W.tup h).go s).at_ (ThAll.go W s t)
  | _, _, .dct n1 n2 h t => .dct n1 n2 (s _ _ n1 n2 h) (ThKv.go W s t)
theorem ThAll.go (W : WellAt w g H) (s : Go w g H H') : ∀ {vs : List V} {ds : List PyData}, ThAll w g H vs ds → ThAll w g H' vs ds
  | _, _, .nil => .nil
  | _, _, .cons a b => .cons (Th.go W s a) (ThAll.go W s b)
theorem ThKv.go (W : WellAt w g H) (s : Go w g H H') : ∀ {vs : List (Key × V)} {ds : List (PyData × PyData)}, ThKv w g H vs ds → ThKv w g H' vs ds
  | _, _, .nil => .nil
  | _, _, .cons a b => .cons (Th.go W s a) (ThKv.go W s b)
end
mutual
theorem Th.toD {K : PySem.W.Frag} : ∀ {v : V} {d : PyData}, Th w g H v d → DpD K H v d
  | _, _, .non => .non
  | _, _, .bl b => .bl b
  | _, _, .int i => .int i
  | _, _, .str x => .str x
  | _, _, .lst _ _ h t => .lst (sqL_of h) (ThAll.toD t)
  | _, _, .tup h t => .tup (sqT_of h) (ThAll.toD t)
  | _, _, .dct _ _ h t => .dct h (ThKv.toD t)
theorem ThAll.toD {K : PySem.W.Frag} : ∀ {vs : List V} {ds : List PyData}, ThAll w g H vs ds → DpDAll K H vs ds
  | _, _, .nil => .nil
  | _, _, .cons a b => .cons (Th.toD a) (ThAll.toD b)
theorem ThKv.toD {K : PySem.W.Frag} : ∀ {vs : List (Key × V)} {ds : List (PyData × PyData)}, ThKv w g H vs ds → DpDKv K H vs ds
  | _, _, .nil => .nil
  | _, _, .cons a b => .cons (Th.toD a) (ThKv.toD b)
end
theorem Th.same {v : V} {d : PyData} (W : WellAt w g H) (t : Th w g H v d) (s : Same H H') : Th w g H' v d := t.go W (Go.of s)
theorem ThAll.length : ∀ {vs : List V} {ds : List PyData}, ThAll w g H vs ds → vs.length = ds.length
  | _, _, .nil => rfl
  | _, _, .cons _ b => by rw [List.length_cons, List.length_cons, ThAll.length b]
theorem ThAll.mem : ∀ {vs : List V} {ds : List PyData} {x : V}, ThAll w g H vs ds → x ∈ vs → ∃ d ∈ ds, Th w g H x d
  | _, _, _, .nil, h => by cases h
  | _, _, x, .cons a b, h => by
    rcases List.mem_cons.mp h with e | h
    · subst e
      exact ⟨_, List.mem_cons_self, a⟩
    · obtain ⟨d, h1, h2⟩ := ThAll.mem b h
      exact ⟨d, List.mem_cons_of_mem _ h1, h2⟩
def isTupD : PyData → Bool
  | .tuple _ => true
  | _ => false
def isStrD : PyData → Bool
  | .str _ => true
  | _ => false
theorem Th.isTup {K : PySem.W.Frag} {v : V} {d : PyData} (t : Th w g H v d) : ∃ ty, TyX K H v ty ∧ PySem.W.kitOne K ty (.type "tuple") = some (isTupD d) := by
  cases t with
  | non => exact ⟨_, .base .non, rfl⟩
  | bl b => exact ⟨_, .base (.bl b), rfl⟩
  | int i => exact ⟨_, .base (.int i), rfl⟩
  | str x => exact ⟨_, .base (.str x), rfl⟩
  | lst _ _ h _ => exact ⟨_, .base (.lst h), rfl⟩
  | tup h _ => exact ⟨_, .base (.tup h), rfl⟩
  | dct _ _ h _ => exact ⟨_, .base (.dK h), rfl⟩
theorem Th.isStr {K : PySem.W.Frag} {v : V} {d : PyData} (t : Th w g H v d) : ∃ ty, TyX K H v ty ∧ PySem.W.kitOne K ty (.type "str") = some (isStrD d) := by
  cases t with
  | non => exact ⟨_, .base .non, rfl⟩
  | bl b => exact ⟨_, .base (.bl b), rfl⟩
  | int i => exact ⟨_, .base (.int i), rfl⟩
  | str x => exact ⟨_, .base (.str x), rfl⟩
  | lst _ _ h _ => exact ⟨_, .base (.lst h), rfl⟩
  | tup h _ => exact ⟨_, .base (.tup h), rfl⟩
  | dct _ _ h _ => exact ⟨_, .base (.dK h), rfl⟩
end
end G1
/-! values of all kinds: how great they are, repr of any of them -/
namespace G1
open PySem PySem.Spec PyProof.Rows L2
/-! ### as the heap goes on -/
def TupOk (w g : Addr) (H : Hp) : Prop := ∀ a xs, H a = some (.tup xs) → a ≠ w ∧ a ≠ g
section
variable {w g : Addr} {H H' : Hp}
mutual
theorem Th.go2 (W : TupOk w g H) (s : Go w g H H') : ∀ {v : V} {d : PyData}, Th w g H v d → Th w g H' v d
  | _, _, .non => .non
  | _, _, .bl b => .bl b
  | _, _, .int i => .int i
  | _, _, .str x => .str x
  | _, _, .lst n1 n2 h t => .lst n1 n2 (s _ _ n1 n2 h) (ThAll.go2 W s t)
  | _, _, .tup h t => .tup (s _ _ (W _ _ h).1 (W _ _ h).2 h) (ThAll.go2 W s t)
  | _, _, .dct n1 n2 h t => .dct n1 n2 (s _ _ n1 n2 h) (ThKv.go2 W s t)
theorem ThAll.go2 (W : TupOk w g H) (s : Go w g H H') : ∀ {vs : List V} {ds : List PyData}, ThAll w g H vs ds → ThAll w g H' vs ds
  | _, _, .nil => .nil
  | _, _, .cons a b => .cons (Th.go2 W s a) (ThAll.go2 W s b)
theorem ThKv.go2 (W : TupOk w g H) (s : Go w g H H') : ∀ {vs : List (Key × V)} {ds : List (PyData × PyData)}, ThKv w g H vs ds → ThKv w g H' vs ds
  | _, _, .nil => .nil
  | _, _, .cons a b => .cons (Th.go2 W s a) (ThKv.go2 W s b)
end
mutual
theorem Th.same2 (s : Same H H') : ∀ {v : V} {d : PyData}, Th w g H v d → Th w g H' v d
  | _, _, .non => .non
  | _, _, .bl b => .bl b
  | _, _, .int i => .int i
  | _, _, .str x => .str x
  | _, _, .lst n1 n2 h t => .lst n1 n2 (s _ _ h) (ThAll.same2 s t)
  | _, _, .tup h t => .tup (s _ _ h) (ThAll.same2 s t)
  | _, _, .dct n1 n2 h t => .dct n1 n2 (s _ _ h) (ThKv.same2 s t)
theorem ThAll.same2 (s : Same H H') : ∀ {vs : List V} {ds : List PyData}, ThAll w g H vs ds → ThAll w g H' vs ds
  | _, _, .nil => .nil
  | _, _, .cons a b => .cons (Th.same2 s a) (ThAll.same2 s b)
theorem ThKv.same2 (s : Same H H') : ∀ {vs : List (Key × V)} {ds : List (PyData × PyData)}, ThKv w g H vs ds → ThKv w g H' vs ds
  | _, _, .nil => .nil
  | _, _, .cons a b => .cons (Th.same2 s a) (ThKv.same2 s b)
end
theorem ThAll.get {vs : List V} {ds : List PyData} (t : ThAll w g H vs ds) : ∀ {i : Nat} {v : V}, vs[i]? = some v → ∃ d, ds[i]? = some d ∧ Th w g H v d := by
  induction vs generalizing ds with
  | nil => intro i v h; simp at h
  | cons a vs ih =>
    cases t with
    | cons x xs =>
      intro i v h
      cases i with
      | zero =>
        obtain rfl := Option.some.inj h
        exact ⟨_, rfl, x⟩
      | succ i => exact ih xs h
theorem ThAll.append {vs us : List V} {ds es : List PyData} (t : ThAll w g H vs ds) (u : ThAll w g H us es) : ThAll w g H (vs ++ us) (ds ++ es) := by
  induction vs generalizing ds with
  | nil => cases t; exact u
  | cons a vs ih => cases t with | cons x xs => exact .cons x (ih xs)
theorem ThAll.take {vs : List V} {ds : List PyData} (t : ThAll w g H vs ds) : ∀ n, ThAll w g H (vs.take n) (ds.take n) := by
  induction vs generalizing ds with
  | nil => intro n; cases t; simp; exact .nil
  | cons a vs ih =>
    intro n
    cases t with
    | cons x xs =>
      cases n with
      | zero => exact .nil
      | succ n => exact .cons x (ih xs n)
theorem ThAll.drop {vs : List V} {ds : List PyData} (t : ThAll w g H vs ds) : ∀ n, ThAll w g H (vs.drop n) (ds.drop n) := by
  induction vs generalizing ds with
  | nil => intro n; cases t; simp; exact .nil
  | cons a vs ih =>
    intro n
    cases t with
    | cons x xs =>
      cases n with
      | zero => exact .cons x xs
      | succ n => exact ih xs n
theorem ThAll.rev {vs : List V} {ds : List PyData} (t : ThAll w g H vs ds) : ThAll w g H vs.reverse ds.reverse := by
  induction vs generalizing ds with
  | nil => cases t; exact .nil
  | cons a vs ih =>
    cases t with
    | cons x xs =>
      rw [List.reverse_cons, List.reverse_cons]
      exact (ih xs).append (.cons x .nil)
end
/-! ### how great they are -/
mutual
def Ok (B : Nat) : PyData → Prop
  | .none | .bool _ => True
  | .int i => i.natAbs ≤ B
  | .str x => ∀ c ∈ x.cps.toList, c < 16 ^ 8
  | .list xs | .tuple xs => OkAll B xs
  | .dict kvs => OkKv B kvs
def OkAll (B : Nat) : List PyData → Prop
  | [] => True
  | x :: xs => Ok B x ∧ OkAll B xs
def OkKv (B : Nat) : List (PyData × PyData) → Prop
  | [] => True
  | (k, v) :: r => Ok B k ∧ Ok B v ∧ OkKv B r
end
mutual
theorem Ok.mono {B C : Nat} (h : B ≤ C) : ∀ {d : PyData}, Ok B d → Ok C d
  | .none, _ => by simp [Ok]
  | .bool _, _ => by simp [Ok]
  | .int i, a => by simp only [Ok] at *; omega
  | .str x, a => by simp only [Ok] at *; exact a
  | .list xs, a => by simp only [Ok] at *; exact OkAll.mono h a
  | .tuple xs, a => by simp only [Ok] at *; exact OkAll.mono h a
  | .dict kvs, a => by simp only [Ok] at *; exact OkKv.mono h a
theorem OkAll.mono {B C : Nat} (h : B ≤ C) : ∀ {d : List PyData}, OkAll B d → OkAll C d
  | [], _ => by simp [OkAll]
  | x :: xs, a => by
    simp only [OkAll] at *
    exact ⟨Ok.mono h a.1, OkAll.mono h a.2⟩
theorem OkKv.mono {B C : Nat} (h : B ≤ C) : ∀ {d : List (PyData × PyData)}, OkKv B d → OkKv C d
  | [], _ => by simp [OkKv]
  | (k, v) :: r, a => by
    simp only [OkKv] at *
    exact ⟨Ok.mono h a.1, Ok.mono h a.2.1, OkKv.mono h a.2.2⟩
end
theorem okAll_iff {B : Nat} : ∀ {ds : List PyData}, OkAll B ds ↔ ∀ d ∈ ds, Ok B d
  | [] => by simp [OkAll]
  | x :: xs => by
    simp only [OkAll, List.mem_cons, forall_eq_or_imp]
    rw [okAll_iff]
theorem ok_tup {B : Nat} {ds : List PyData} : Ok B (.tuple ds) ↔ ∀ d ∈ ds, Ok B d := by simp only [Ok]; exact okAll_iff
theorem ok_lst {B : Nat} {ds : List PyData} : Ok B (.list ds) ↔ ∀ d ∈ ds, Ok B d := by simp only [Ok]; exact okAll_iff
theorem log_of {i : Int} {B : Nat} (h : i.natAbs ≤ B) (hB : B < 10 ^ 38) : i.natAbs.log2 < 1920 := by
  by_cases z : i.natAbs = 0
  · rw [z]; decide
  · exact (Nat.log2_lt z).mpr (Nat.lt_of_le_of_lt h (Nat.lt_trans hB (by decide)))
mutual
theorem Ok.shows {B : Nat} (hB : B < 10 ^ 38) : ∀ {d : PyData}, Ok B d → d.showable = true ∧ d.leavesShort 40 = true
  | .none, _ => ⟨rfl, rfl⟩
  | .bool _, _ => ⟨rfl, rfl⟩
  | .int i, a => by
    simp only [Ok] at a
    refine ⟨by simp only [PyData.showable]; exact decide_eq_true (log_of a hB), ?_⟩
    simp only [PyData.leavesShort]
    refine decide_eq_true ?_
    have := int_text_length_le10 (a := i) (k := 38) (by decide) (by omega)
    show (Str.ofString (toString i)).length ≤ 40
    rw [PySem.ofString_length]
    omega
  | .str x, a => by
    simp only [Ok] at a
    refine ⟨rfl, ?_⟩
    simp only [PyData.leavesShort, List.all_eq_true, decide_eq_true_eq]
    exact a
  | .list xs, a => by
    simp only [Ok] at a
    simp only [PyData.showable, PyData.leavesShort]
    exact OkAll.shows hB a
  | .tuple xs, a => by
    simp only [Ok] at a
    simp only [PyData.showable, PyData.leavesShort]
    exact OkAll.shows hB a
  | .dict kvs, a => by
    simp only [Ok] at a
    simp only [PyData.showable, PyData.leavesShort]
    exact OkKv.shows hB a
theorem OkAll.shows {B : Nat} (hB : B < 10 ^ 38) : ∀ {d : List PyData}, OkAll B d → PyData.showableAll d = true ∧ PyData.leavesShortAll 40 d = true
  | [], _ => ⟨rfl, rfl⟩
  | x :: xs, a => by
    simp only [OkAll] at a
    obtain ⟨h1, h2⟩ := Ok.shows hB a.1
    obtain ⟨h3, h4⟩ := OkAll.shows hB a.2
    simp only [PyData.showableAll, PyData.leavesShortAll, h1, h2, h3, h4, Bool.and_self, and_self]
theorem OkKv.shows {B : Nat} (hB : B < 10 ^ 38) : ∀ {d : List (PyData × PyData)}, OkKv B d → PyData.showableKv d = true ∧ PyData.leavesShortKv 40 d = true
  | [], _ => ⟨rfl, rfl⟩
  | (k, v) :: r, a => by
    simp only [OkKv] at a
    obtain ⟨h1, h2⟩ := Ok.shows hB a.1
    obtain ⟨h3, h4⟩ := Ok.shows hB a.2.1
    obtain ⟨h5, h6⟩ := OkKv.shows hB a.2.2
    simp only [PyData.showableKv, PyData.leavesShortKv, h1, h2, h3, h4, h5, h6, Bool.and_self, and_self]
end
/-! ### weights and depths of items put together -/
theorem weight_app : ∀ (a b : List PyData), PyData.weightAll (a ++ b) = PyData.weightAll a + PyData.weightAll b
  | [], b => by simp [PyData.weightAll]
  | x :: a, b => by
    simp only [List.cons_append, PyData.weightAll, weight_app a b]
    omega
theorem weight_take (a : List PyData) (n : Nat) : PyData.weightAll (a.take n) + PyData.weightAll (a.drop n) = PyData.weightAll a := by
  rw [← weight_app, List.take_append_drop]
theorem weight_rev : ∀ a : List PyData, PyData.weightAll a.reverse = PyData.weightAll a
  | [] => rfl
  | x :: a => by
    rw [List.reverse_cons, weight_app, weight_rev a]
    simp only [PyData.weightAll]
    omega
theorem weight_one (x : PyData) : PyData.weightAll [x] = x.weight + 1 := by simp [PyData.weightAll]
theorem depth_all_le {n : Nat} : ∀ {a : List PyData}, PyData.depthAll a ≤ n ↔ ∀ d ∈ a, d.depth ≤ n
  | [] => by simp [PyData.depthAll]
  | x :: a => by
    simp only [PyData.depthAll, List.mem_cons, forall_eq_or_imp]
    rw [← depth_all_le (a := a)]
    omega
/-! ### repr of any value -/
def rReprT (K : PySem.W.Frag) : List V → Hp → VK → Prop := fun xs H Q => ∃ (v : V) (d : PyData), xs = [v] ∧ DpD K H v d ∧ d.showable = true ∧ d.depth ≤ 60 ∧ d.shown.length ≤ sizeLine ∧ Q (.str d.shown) H
section
variable {X : Cx}
theorem call_reprT (hb : HasSys X.base) (hgd : X.A.guards = some []) (hu : X.A.units + 64 < cLine) : CallR X (.builtin "repr") (rReprT X.K) := by
  intro pins s σ H xs us Q I r h
  obtain ⟨v, d, rfl, hd, hs, hdp, hz, q⟩ := h
  cases hd with
  | non =>
    obtain ⟨u, rfl, ru⟩ := vals1 r
    obtain rfl : u = Value.none := ru
    exact PySem.P.repr_of_none ⟨.str _, H, I.tok _, ⟨_, rfl⟩, q⟩
  | bl b =>
    obtain ⟨u, rfl, ru⟩ := vals1 r
    obtain rfl : u = Value.bool b := ru
    refine PySem.P.repr_of_bool ⟨.str _, H, I.tok _, ⟨_, rfl⟩, ?_⟩
    cases b <;> exact q
  | int i =>
    obtain ⟨u, rfl, ru⟩ := vals1 r
    obtain ⟨t, rfl⟩ := ru
    have hi : i.natAbs.log2 < 1920 := by simpa only [PyData.showable, decide_eq_true_eq] using hs
    exact PySem.P.repr_of_int hi ⟨.str _, H, I.tok _, ⟨_, rfl⟩, q⟩
  | str x =>
    obtain ⟨u, rfl, ru⟩ := vals1 r
    obtain ⟨t, rfl⟩ := ru
    exact PySem.P.repr_of_str ⟨.str _, H, I.tok _, ⟨_, rfl⟩, q⟩ hz
  | lst h1 h2 => exact call_reprDD hb hgd hu pins s σ H _ us Q I r ⟨_, _, rfl, .lst h1 h2, hs, hdp, hz, q⟩
  | tup h1 h2 => exact call_reprDD hb hgd hu pins s σ H _ us Q I r ⟨_, _, rfl, .tup h1 h2, hs, hdp, hz, q⟩
  | dct h1 h2 => exact call_reprDD hb hgd hu pins s σ H _ us Q I r ⟨_, _, rfl, .dct h1 h2, hs, hdp, hz, q⟩
end
/-- repr of a value that is not too great -/
theorem repr_val {K : PySem.W.Frag} {H : Hp} {R : PyData → Prop} {v : V} {d : PyData} {B : Nat} (hd : DpD K H v d) (ok : Ok B d) (hB : B < 10 ^ 38) (hw : d.weight ≤ 300000) (hdp : d.depth ≤ 60) (q : R d) :
    ∃ (v' : V) (d' : PyData), [v] = [v'] ∧ DpD K H v' d' ∧ d'.showable = true ∧ d'.depth ≤ 60 ∧ d'.shown.length ≤ sizeLine ∧ R d' := by
  obtain ⟨h1, h2⟩ := ok.shows hB
  have s := PyData.shown_le 40 (by decide) d h2
  exact ⟨v, d, rfl, hd, h1, hdp, Nat.le_trans s (Nat.le_trans (by omega : _ ≤ 42 * 300000 + 40) (by decide)), q⟩
/-! ### kinds -/
def isIntD : PyData → Bool
  | .int _ | .bool _ => true
  | _ => false
def isBoolD : PyData → Bool
  | .bool _ => true
  | _ => false
section
variable {w g : Addr} {H : Hp}
theorem Th.isInt {K : PySem.W.Frag} {v : V} {d : PyData} (t : Th w g H v d) : ∃ ty, TyX K H v ty ∧ PySem.W.kitOne K ty (.type "int") = some (isIntD d) := by
  cases t with
  | non => exact ⟨_, .base .non, rfl⟩
  | bl b => exact ⟨_, .base (.bl b), rfl⟩
  | int i => exact ⟨_, .base (.int i), rfl⟩
  | str x => exact ⟨_, .base (.str x), rfl⟩
  | lst _ _ h _ => exact ⟨_, .base (.lst h), rfl⟩
  | tup h _ => exact ⟨_, .base (.tup h), rfl⟩
  | dct _ _ h _ => exact ⟨_, .base (.dK h), rfl⟩
theorem Th.isBool {K : PySem.W.Frag} {v : V} {d : PyData} (t : Th w g H v d) : ∃ ty, TyX K H v ty ∧ PySem.W.kitOne K ty (.type "bool") = some (isBoolD d) := by
  cases t with
  | non => exact ⟨_, .base .non, rfl⟩
  | bl b => exact ⟨_, .base (.bl b), rfl⟩
  | int i => exact ⟨_, .base (.int i), rfl⟩
  | str x => exact ⟨_, .base (.str x), rfl⟩
  | lst _ _ h _ => exact ⟨_, .base (.lst h), rfl⟩
  | tup h _ => exact ⟨_, .base (.tup h), rfl⟩
  | dct _ _ h _ => exact ⟨_, .base (.dK h), rfl⟩
end
end G1
/-! truths among the numbers; how great data are that are put together; things laid one after another -/
namespace G1
open PySem PySem.Spec PyProof.Rows L2
section
variable {X : Cx}
theorem op_addX : OpR X (binaryOp .Add) (fun x y H Q => (∃ i j, x = .int i ∧ y = .int j ∧ Q (.int (i + j)) H) ∨ ∃ b j, x = .bl b ∧ y = .int j ∧ Q (.int ((if b = true then (1 : Int) else 0) + j)) H) := by
  intro pins s σ H x y v u Q I rx ry h
  rcases h with ⟨i, j, rfl, rfl, q⟩ | ⟨b, j, rfl, rfl, q⟩
  · obtain ⟨t, rfl⟩ := rx
    obtain ⟨t', rfl⟩ := ry
    exact add_int ⟨.int _, H, I.tok _, ⟨_, rfl⟩, q⟩
  · cases rx
    obtain ⟨t', rfl⟩ := ry
    exact PySem.IntBool.add_bool_int ⟨.int _, H, I.tok _, ⟨_, rfl⟩, q⟩
theorem op_subX : OpR X (binaryOp .Sub) (fun x y H Q => (∃ i j, x = .int i ∧ y = .int j ∧ Q (.int (i - j)) H) ∨ (∃ b j, x = .bl b ∧ y = .int j ∧ Q (.int ((if b = true then (1 : Int) else 0) - j)) H) ∨
    ∃ i b, x = .int i ∧ y = .bl b ∧ Q (.int (i - if b = true then (1 : Int) else 0)) H) := by
  intro pins s σ H x y v u Q I rx ry h
  rcases h with ⟨i, j, rfl, rfl, q⟩ | ⟨b, j, rfl, rfl, q⟩ | ⟨i, b, rfl, rfl, q⟩
  · obtain ⟨t, rfl⟩ := rx
    obtain ⟨t', rfl⟩ := ry
    exact sub_int ⟨.int _, H, I.tok _, ⟨_, rfl⟩, q⟩
  · cases rx
    obtain ⟨t', rfl⟩ := ry
    exact PySem.IntBool.sub_bool_int ⟨.int _, H, I.tok _, ⟨_, rfl⟩, q⟩
  · obtain ⟨t, rfl⟩ := rx
    cases ry
    exact PySem.IntBool.sub_int_bool ⟨.int _, H, I.tok _, ⟨_, rfl⟩, q⟩
theorem call_strX : CallR X (.type "str") (fun xs H Q => (∃ i, xs = [.int i] ∧ i.natAbs.log2 < 1920 ∧ Q (.str (toString i)) H) ∨ ∃ b, xs = [.bl b] ∧ Q (.str (if b then "True" else "False")) H) := by
  intro pins s σ H xs us Q I r h
  rcases h with ⟨i, rfl, hz, q⟩ | ⟨b, rfl, q⟩
  · obtain ⟨u, rfl, t, rfl⟩ := vals1 r
    exact PySem.P.str_of_int hz ⟨.str _, H, I.tok _, ⟨_, rfl⟩, q⟩
  · obtain ⟨u, rfl, r1⟩ := vals1 r
    cases r1
    exact PySem.P.str_of_bool ⟨.str _, H, I.tok _, ⟨_, rfl⟩, q⟩
end
/-! ### how great -/
def cutD (ds : List PyData) (lo hi : Option Int) : List PyData := (ds.drop (HT.sIx ds.length 0 lo)).take (HT.sIx ds.length ds.length hi - HT.sIx ds.length 0 lo)
theorem ThAll.cut {w g : Addr} {H : Hp} {xs : List V} {ds : List PyData} (t : ThAll w g H xs ds) (lo hi : Option Int) : ThAll w g H (cutV xs lo hi) (cutD ds lo hi) := by
  unfold cutV cutD
  rw [t.length]
  exact (t.drop _).take _
structure Bd (B W D : Nat) (d : PyData) : Prop where
  ok : Ok B d
  wt : d.weight ≤ W
  dp : d.depth ≤ D
structure BdL (B W D : Nat) (ds : List PyData) : Prop where
  ok : ∀ d ∈ ds, Ok B d
  wt : PyData.weightAll ds ≤ W
  dp : ∀ d ∈ ds, d.depth ≤ D
section
variable {B W D B' W' D' : Nat} {d : PyData} {ds es : List PyData}
theorem Bd.mono (x : Bd B W D d) (h1 : B ≤ B') (h2 : W ≤ W') (h3 : D ≤ D') : Bd B' W' D' d := ⟨x.ok.mono h1, Nat.le_trans x.wt h2, Nat.le_trans x.dp h3⟩
theorem BdL.mono (x : BdL B W D ds) (h1 : B ≤ B') (h2 : W ≤ W') (h3 : D ≤ D') : BdL B' W' D' ds := ⟨fun d h => (x.ok d h).mono h1, Nat.le_trans x.wt h2, fun d h => Nat.le_trans (x.dp d h) h3⟩
theorem BdL.tup (x : BdL B W D ds) : Bd B W (D + 1) (.tuple ds) := ⟨ok_tup.mpr x.ok, by simpa [PyData.weight] using x.wt, by simp only [PyData.depth]; have := depth_all_le.mpr x.dp; omega⟩
theorem BdL.lst (x : BdL B W D ds) : Bd B W (D + 1) (.list ds) := ⟨ok_lst.mpr x.ok, by simpa [PyData.weight] using x.wt, by simp only [PyData.depth]; have := depth_all_le.mpr x.dp; omega⟩
theorem Bd.un (x : Bd B W D (.tuple ds)) : 1 ≤ D ∧ BdL B W (D - 1) ds := by
  obtain ⟨h1, h2, h3⟩ := x
  simp only [PyData.weight] at h2
  simp only [PyData.depth] at h3
  exact ⟨by omega, ok_tup.mp h1, h2, depth_all_le.mp (by omega)⟩
theorem wt_drop (ds : List PyData) (n : Nat) : PyData.weightAll (ds.drop n) ≤ PyData.weightAll ds := by have := weight_take ds n; omega
theorem wt_take (ds : List PyData) (n : Nat) : PyData.weightAll (ds.take n) ≤ PyData.weightAll ds := by have := weight_take ds n; omega
theorem BdL.cut (x : BdL B W D ds) (lo hi : Option Int) : BdL B W D (cutD ds lo hi) := by
  unfold cutD
  exact ⟨fun d h => x.ok d (List.mem_of_mem_drop (List.mem_of_mem_take h)), Nat.le_trans (wt_take _ _) (Nat.le_trans (wt_drop _ _) x.wt), fun d h => x.dp d (List.mem_of_mem_drop (List.mem_of_mem_take h))⟩
theorem BdL.app (x : BdL B W D ds) (y : BdL B W' D es) : BdL B (W + W') D (ds ++ es) := by
  refine ⟨fun d h => (List.mem_append.mp h).elim (x.ok d) (y.ok d), ?_, fun d h => (List.mem_append.mp h).elim (x.dp d) (y.dp d)⟩
  rw [weight_app]
  have := x.wt
  have := y.wt
  omega
theorem BdL.one (x : Bd B W D d) : BdL B (W + 1) D [d] := by
  refine ⟨fun e h => ?_, ?_, fun e h => ?_⟩
  · rw [List.mem_singleton] at h
    exact h ▸ x.ok
  · rw [weight_one]
    have := x.wt
    omega
  · rw [List.mem_singleton] at h
    exact h ▸ x.dp
theorem BdL.rev (x : BdL B W D ds) : BdL B W D ds.reverse := ⟨fun d h => x.ok d (List.mem_reverse.mp h), by rw [weight_rev]; exact x.wt, fun d h => x.dp d (List.mem_reverse.mp h)⟩
theorem wt_mem : ∀ {ds : List PyData}, d ∈ ds → d.weight + 1 ≤ PyData.weightAll ds
  | [], h => by cases h
  | e :: ds, h => by
    simp only [PyData.weightAll]
    rcases List.mem_cons.mp h with rfl | h
    · omega
    · have := wt_mem h
      omega
theorem wt_len : ∀ ds : List PyData, ds.length ≤ PyData.weightAll ds
  | [] => Nat.zero_le _
  | e :: ds => by
    simp only [PyData.weightAll, List.length_cons]
    have := wt_len ds
    omega
theorem BdL.mem (x : BdL B W D ds) (h : d ∈ ds) : Bd B W D d := ⟨x.ok d h, by have := wt_mem h; have := x.wt; omega, x.dp d h⟩
theorem BdL.len (x : BdL B W D ds) : ds.length ≤ W := Nat.le_trans (wt_len ds) x.wt
theorem log_wt {i : Int} {k : Nat} (h : i.natAbs < 2 ^ k) : PyData.weight (.int i) ≤ k := by
  show (if i == 0 then 0 else i.natAbs.log2 + 1) ≤ k
  split
  · omega
  · have z : i.natAbs ≠ 0 := fun e => by
      rename_i hz
      exact hz (by rw [Int.natAbs_eq_zero.mp e]; rfl)
    have := (Nat.log2_lt z).mpr h
    omega
theorem bd_int {i : Int} (h : i.natAbs ≤ B) (hB : B < 10 ^ 38) : Bd B 127 0 (.int i) := ⟨by simp only [Ok]; exact h, log_wt (Nat.lt_of_le_of_lt h (Nat.lt_trans hB (by decide))), by simp [PyData.depth]⟩
theorem bd_bl (b : Bool) : Bd B 0 0 (.bool b) := ⟨by simp [Ok], by simp [PyData.weight], by simp [PyData.depth]⟩
theorem bd_non : Bd B 0 0 .none := ⟨by simp [Ok], by simp [PyData.weight], by simp [PyData.depth]⟩
theorem cps_small (s : String) : ∀ c ∈ (Str.ofString s).cps.toList, c < 16 ^ 8 := by
  intro c hc
  rw [Str.ofString_eq_toList] at hc
  obtain ⟨x, _, rfl⟩ := List.mem_map.mp hc
  have h := x.valid
  have : x.toNat < 0x110000 := by
    rcases h with h | ⟨_, h⟩
    · exact Nat.lt_trans h (by decide)
    · exact h
  exact Nat.lt_trans this (by decide)
theorem bd_str (s : String) (h : (Str.ofString s).length ≤ W) : Bd B W 0 (.str (Str.ofString s)) := ⟨by simp only [Ok]; exact cps_small s, h, by simp [PyData.depth]⟩
end
/-! ### things laid one after another -/
section
variable {m : Str} {w g c p : Addr} {H0 H H' : Hp} {vs us : List V} {ds es : List PyData}
theorem DkC.tups (W : DkC m w g c H) : TupOk w g H := fun a xs h => ⟨(W.tup h).nw, (W.tup h).ng⟩
theorem ThAll.hd {v : V} {d : PyData} (t : ThAll w g H (v :: vs) (d :: ds)) : Th w g H v d := by cases t; assumption
theorem ThAll.tl {v : V} {d : PyData} (t : ThAll w g H (v :: vs) (d :: ds)) : ThAll w g H vs ds := by cases t; assumption
/-- the state of a def that lays things: since H0 nothing but the deck has changed, the deck stands, vs are things -/
structure Ly (m : Str) (w g c : Addr) (H0 H : Hp) (vs : List V) (ds : List PyData) : Prop where
  go : Go w g H0 H
  dk : DkC m w g c H
  th : ThAll w g H vs ds
theorem Ly.nil (W : DkC m w g c H) : Ly m w g c H H [] [] := ⟨fun _ _ _ _ e => e, W, .nil⟩
theorem Ly.same (y : Ly m w g c H0 H vs ds) (s : Same H H') : Ly m w g c H0 H' vs ds := ⟨y.go.trans (Go.of s), y.dk.same s, y.th.same2 s⟩
theorem Ly.goes (y : Ly m w g c H0 H vs ds) (s : Go w g H H') (W : DkC m w g c H') : Ly m w g c H0 H' vs ds := ⟨y.go.trans s, W, y.th.go2 y.dk.tups s⟩
theorem Ly.more {v : V} {d : PyData} (y : Ly m w g c H0 H vs ds) (t : Th w g H v d) : Ly m w g c H0 H (v :: vs) (d :: ds) := ⟨y.go, y.dk, .cons t y.th⟩
theorem Ly.addAll (y : Ly m w g c H0 H vs ds) (t : ThAll w g H us es) : Ly m w g c H0 H (us ++ vs) (es ++ ds) := ⟨y.go, y.dk, t.append y.th⟩
/-- a new tuple -/
theorem Ly.newT {ts : List V} {ks : List PyData} (y : Ly m w g c H0 H vs ds) (np : H p = none) (hU : upd H p (.tup ts) = H') (t : ThAll w g H ts ks) : Ly m w g c H0 H' (.ref p :: vs) (.tuple ks :: ds) := by
  obtain ⟨s, W, a⟩ := new_ofC y.dk np hU
  exact ⟨y.go.trans (Go.of s), W, .cons (.tup a.at_ (t.same2 s)) (y.th.same2 s)⟩
/-- a new list -/
theorem Ly.newL {ts : List V} {ks : List PyData} (y : Ly m w g c H0 H vs ds) (np : H p = none) (hU : upd H p (.lst ts) = H') (t : ThAll w g H ts ks) : Ly m w g c H0 H' (.ref p :: vs) (.list ks :: ds) := by
  obtain ⟨s, W, a⟩ := new_ofC y.dk np hU
  exact ⟨y.go.trans (Go.of s), W, .cons (.lst a.nw a.ng a.at_ (t.same2 s)) (y.th.same2 s)⟩
/-- a new list of things that is no thing to keep: apart from the deck -/
theorem Ly.newA {ts : List V} (y : Ly m w g c H0 H vs ds) (np : H p = none) (hU : upd H p (.lst ts) = H') : Ly m w g c H0 H' vs ds ∧ Ac w g c H' p (.lst ts) := by
  obtain ⟨s, W, a⟩ := new_ofC y.dk np hU
  exact ⟨⟨y.go.trans (Go.of s), W, y.th.same2 s⟩, a⟩
theorem Ly.newD {kvs : List (Key × V)} {ks : List (PyData × PyData)} (y : Ly m w g c H0 H vs ds) (np : H p = none) (hU : upd H p (.dK kvs) = H') (t : ThKv w g H kvs ks) : Ly m w g c H0 H' (.ref p :: vs) (.dict ks :: ds) := by
  obtain ⟨s, W, a⟩ := new_ofC y.dk np hU
  exact ⟨y.go.trans (Go.of s), W, .cons (.dct a.nw a.ng a.at_ (ThKv.same2 s t)) (y.th.same2 s)⟩
/-- a tuple that stands there -/
theorem Ly.oldT {ts : List V} {ks : List PyData} (y : Ly m w g c H0 H vs ds) (hp : H p = some (.tup ts)) (t : ThAll w g H ts ks) : Ly m w g c H0 H (.ref p :: vs) (.tuple ks :: ds) := y.more (.tup hp t)
end
end G1
/-! things laid one after another beside a deck of any make: each with how great it is at most -/
namespace G1
open PySem PySem.Spec PyProof.Rows L2
/-- what a deck at w, g, c must be -/
structure Dok (D : Hp → Prop) (w g c : Addr) : Prop where
  same : ∀ {H H' : Hp}, D H → Same H H' → D H'
  fresh : ∀ {H : Hp} {p : Addr}, D H → H p = none → p ≠ w ∧ p ≠ g ∧ p ≠ c
  tup : ∀ {H : Hp} {a : Addr} {xs : List V}, D H → H a = some (.tup xs) → a ≠ w ∧ a ≠ g ∧ a ≠ c
  upd : ∀ {H : Hp} {p : Addr} {o : HO}, D H → p ≠ w → p ≠ g → p ≠ c → D (upd H p o)
theorem dok_dkC {m : Str} {w g c : Addr} : Dok (DkC m w g c) w g c :=
  ⟨fun D s => D.same s, fun D h => D.fresh h, fun D h => ⟨(D.tup h).nw, (D.tup h).ng, (D.tup h).nc⟩, fun D h1 h2 h3 => D.upd h1 h2 h3⟩
/-- a thing that is not too great -/
def Bt (B W D : Nat) (w g : Addr) (H : Hp) (v : V) : Prop := ∃ d, Th w g H v d ∧ Bd B W D d
def BtL (B W D : Nat) (w g : Addr) (H : Hp) (vs : List V) : Prop := ∃ ds, ThAll w g H vs ds ∧ BdL B W D ds
section
variable {B W D B' W' D' W1 W2 D1 D2 : Nat} {w g : Addr} {H H' : Hp} {v : V} {vs us : List V}
theorem Bt.non : Bt B 0 0 w g H .non := ⟨_, .non, bd_non⟩
theorem Bt.bl (b : Bool) : Bt B 0 0 w g H (.bl b) := ⟨_, .bl b, bd_bl b⟩
theorem Bt.int {i : Int} (h : i.natAbs ≤ B) (hB : B < 10 ^ 38) : Bt B 127 0 w g H (.int i) := ⟨_, .int i, bd_int h hB⟩
theorem Bt.str (s : String) (h : (Str.ofString s).length ≤ 20) : Bt B 20 0 w g H (.str (Str.ofString s)) := ⟨_, .str _, bd_str s h⟩
theorem repN_len (l : List Nat) : ∀ n, (repN n l).length = n * l.length
  | 0 => by simp [repN]
  | n + 1 => by
    show (l ++ repN n l).length = _
    rw [List.length_append, repN_len l n, Nat.succ_mul]
    omega
theorem repN_mem {l : List Nat} {c : Nat} : ∀ {n}, c ∈ repN n l → c ∈ l
  | 0, h => by simp [repN] at h
  | n + 1, h => by
    have h' : c ∈ l ++ repN n l := h
    rcases List.mem_append.mp h' with q | q
    · exact q
    · exact repN_mem q
theorem Bt.code {l : List Nat} (h : l.length ≤ W) (hc : ∀ k ∈ l, k < 16 ^ 8) : Bt B W 0 w g H (.str (C l)) :=
  ⟨_, .str _, by simp only [Ok]; exact hc, by rw [show PyData.weight (.str (C l)) = (C l).length from rfl, C_len]; exact h, by simp [PyData.depth]⟩
/-- the same sign again and again -/
theorem Bt.mulC {l : List Nat} {n : Nat} (hl : l.length ≤ 2) (hc : ∀ k ∈ l, k < 16 ^ 8) : Bt B (n * 2) 0 w g H (.str (Txt.mul (C l) (n : Int))) := by
  rw [C_mul l (by omega), Int.toNat_natCast]
  refine Bt.code ?_ fun k hk => hc k (repN_mem hk)
  rw [repN_len]
  exact Nat.mul_le_mul_left n hl
theorem Bt.rep {l : List Nat} {n : Int} (hl : l.length ≤ 2) (hc : ∀ k ∈ l, k < 16 ^ 8) : Bt B (n.toNat * 2) 0 w g H (.str (C (repN n.toNat l))) := by
  refine Bt.code ?_ fun k hk => hc k (repN_mem hk)
  rw [repN_len]
  exact Nat.mul_le_mul_left _ hl
theorem Bt.mono (x : Bt B W D w g H v) (h1 : B ≤ B') (h2 : W ≤ W') (h3 : D ≤ D') : Bt B' W' D' w g H v := by
  obtain ⟨d, t, b⟩ := x
  exact ⟨d, t, b.mono h1 h2 h3⟩
theorem BtL.mono (x : BtL B W D w g H vs) (h1 : B ≤ B') (h2 : W ≤ W') (h3 : D ≤ D') : BtL B' W' D' w g H vs := by
  obtain ⟨d, t, b⟩ := x
  exact ⟨d, t, b.mono h1 h2 h3⟩
theorem BtL.nil : BtL B 0 0 w g H [] := ⟨[], .nil, ⟨fun _ h => (by cases h), Nat.le_refl _, fun _ h => (by cases h)⟩⟩
theorem BtL.cons (x : Bt B W1 D1 w g H v) (y : BtL B W2 D2 w g H vs) : BtL B (W1 + 1 + W2) (max D1 D2) w g H (v :: vs) := by
  obtain ⟨d, t, b⟩ := x
  obtain ⟨ds, ts, bs⟩ := y
  exact ⟨d :: ds, .cons t ts, (BdL.one (b.mono (Nat.le_refl _) (Nat.le_refl _) (Nat.le_max_left D1 D2))).app (bs.mono (Nat.le_refl _) (Nat.le_refl _) (Nat.le_max_right D1 D2))⟩
theorem BtL.app (x : BtL B W1 D1 w g H vs) (y : BtL B W2 D2 w g H us) : BtL B (W1 + W2) (max D1 D2) w g H (vs ++ us) := by
  obtain ⟨ds, t, b⟩ := x
  obtain ⟨es, ts, bs⟩ := y
  exact ⟨ds ++ es, t.append ts, (b.mono (Nat.le_refl _) (Nat.le_refl _) (Nat.le_max_left D1 D2)).app (bs.mono (Nat.le_refl _) (Nat.le_refl _) (Nat.le_max_right D1 D2))⟩
theorem BtL.mem (x : BtL B W D w g H vs) (h : v ∈ vs) : Bt B W D w g H v := by
  obtain ⟨ds, t, b⟩ := x
  obtain ⟨d, hd, td⟩ := t.mem h
  exact ⟨d, td, b.mem hd⟩
theorem BtL.cut (x : BtL B W D w g H vs) (lo hi : Option Int) : BtL B W D w g H (cutV vs lo hi) := by
  obtain ⟨ds, t, b⟩ := x
  exact ⟨_, t.cut lo hi, b.cut lo hi⟩
theorem BtL.rev (x : BtL B W D w g H vs) : BtL B W D w g H vs.reverse := by
  obtain ⟨ds, t, b⟩ := x
  exact ⟨_, t.rev, b.rev⟩
theorem BtL.len (x : BtL B W D w g H vs) : vs.length ≤ W := by
  obtain ⟨ds, t, b⟩ := x
  rw [t.length]
  exact b.len
theorem BtL.tup {a : Addr} (x : BtL B W D w g H vs) (h : H a = some (.tup vs)) : Bt B W (D + 1) w g H (.ref a) := by
  obtain ⟨ds, t, b⟩ := x
  exact ⟨_, .tup h t, b.tup⟩
theorem BtL.lst {a : Addr} (x : BtL B W D w g H vs) (h : H a = some (.lst vs)) (n1 : a ≠ w) (n2 : a ≠ g) : Bt B W (D + 1) w g H (.ref a) := by
  obtain ⟨ds, t, b⟩ := x
  exact ⟨_, .lst n1 n2 h t, b.lst⟩
theorem Bt.go (x : Bt B W D w g H v) (T : TupOk w g H) (s : Go w g H H') : Bt B W D w g H' v := by
  obtain ⟨d, t, b⟩ := x
  exact ⟨d, t.go2 T s, b⟩
theorem BtL.go (x : BtL B W D w g H vs) (T : TupOk w g H) (s : Go w g H H') : BtL B W D w g H' vs := by
  obtain ⟨d, t, b⟩ := x
  exact ⟨d, t.go2 T s, b⟩
/-- n times the same things -/
theorem BtL.rep (x : BtL B W D w g H vs) : ∀ n : Nat, BtL B (n * W) D w g H (List.flatten (List.replicate n vs))
  | 0 => by simpa using BtL.nil.mono (Nat.le_refl _) (Nat.le_refl _) (Nat.zero_le D)
  | n + 1 => by
    have := x.app (BtL.rep x n)
    rw [List.replicate_succ, List.flatten_cons]
    exact this.mono (Nat.le_refl _) (by rw [Nat.succ_mul]; omega) (by omega)
theorem BtL.snoc (x : BtL B W1 D w g H vs) (y : Bt B W2 D w g H v) : BtL B (W1 + (W2 + 1)) D w g H (vs ++ [v]) :=
  (x.app (BtL.cons y BtL.nil)).mono (Nat.le_refl _) (by omega) (by omega)
end
/-- what has been laid: a thing; a list; a tuple -/
inductive En
  | th (v : V) (W D : Nat)
  | ls (a : Addr) (xs : List V) (W D : Nat)
  | tp (a : Addr) (xs : List V) (W D : Nat)
def En.ok (B : Nat) (w g c : Addr) (H : Hp) : En → Prop
  | .th v W D => Bt B W D w g H v
  | .ls a xs W D => Ac w g c H a (.lst xs) ∧ BtL B W D w g H xs
  | .tp a xs W D => H a = some (.tup xs) ∧ BtL B W D w g H xs
/-- since H0 nothing but the deck has changed, the deck stands, and what is laid stands -/
structure Lz (D : Hp → Prop) (B : Nat) (w g c : Addr) (H0 H : Hp) (es : List En) : Prop where
  ok : Dok D w g c
  go : Go w g H0 H
  dk : D H
  th : ∀ e ∈ es, En.ok B w g c H e
section
variable {D : Hp → Prop} {B W Dp : Nat} {w g c p a : Addr} {H0 H H' : Hp} {es : List En} {e : En} {v : V} {xs : List V}
theorem Lz.tups (y : Lz D B w g c H0 H es) : TupOk w g H := fun a xs h => ⟨(y.ok.tup y.dk h).1, (y.ok.tup y.dk h).2.1⟩
theorem En.ok.go {x : En} (h : En.ok B w g c H x) (T : TupOk w g H) (s : Go w g H H') : En.ok B w g c H' x := by
  cases x with
  | th v W D => exact Bt.go h T s
  | ls a xs W D => exact ⟨h.1.go s, h.2.go T s⟩
  | tp a xs W D => exact ⟨s _ _ (T _ _ h.1).1 (T _ _ h.1).2 h.1, h.2.go T s⟩
theorem Lz.nil (o : Dok D w g c) (h : D H) : Lz D B w g c H H [] := ⟨o, fun _ _ _ _ e => e, h, fun _ h => by cases h⟩
theorem Lz.goes (y : Lz D B w g c H0 H es) (s : Go w g H H') (h : D H') : Lz D B w g c H0 H' es :=
  ⟨y.ok, y.go.trans s, h, fun e he => (y.th e he).go y.tups s⟩
theorem Lz.same (y : Lz D B w g c H0 H es) (s : Same H H') : Lz D B w g c H0 H' es := y.goes (Go.of s) (y.ok.same y.dk s)
theorem Lz.add (y : Lz D B w g c H0 H es) (h : En.ok B w g c H e) : Lz D B w g c H0 H (e :: es) :=
  ⟨y.ok, y.go, y.dk, fun x hx => by
    rcases List.mem_cons.mp hx with q | q
    · subst q; exact h
    · exact y.th x q⟩
theorem Lz.addT (y : Lz D B w g c H0 H es) (h : Bt B W Dp w g H v) : Lz D B w g c H0 H (.th v W Dp :: es) := y.add h
theorem Lz.drop (y : Lz D B w g c H0 H (e :: es)) : Lz D B w g c H0 H es := ⟨y.ok, y.go, y.dk, fun x hx => y.th x (List.mem_cons_of_mem _ hx)⟩
theorem Lz.wipe (y : Lz D B w g c H0 H es) : Lz D B w g c H0 H [] := ⟨y.ok, y.go, y.dk, fun _ h => by cases h⟩
theorem Lz.again (y : Lz D B w g c H0 H es) : Lz D B w g c H H es := ⟨y.ok, fun _ _ _ _ e => e, y.dk, y.th⟩
theorem Lz.new (y : Lz D B w g c H0 H es) {o : HO} (np : H p = none) (hU : upd H p o = H') : Same H H' ∧ Lz D B w g c H0 H' es ∧ Ac w g c H' p o := by
  subst hU
  have f := y.ok.fresh y.dk np
  exact ⟨same_new np, y.same (same_new np), f.1, f.2.1, f.2.2, upd_same⟩
theorem Lz.newT (y : Lz D B w g c H0 H es) (np : H p = none) (hU : upd H p (.tup xs) = H') (t : BtL B W Dp w g H xs) : Lz D B w g c H0 H' (.tp p xs W Dp :: es) := by
  obtain ⟨s, y', a⟩ := y.new np hU
  exact y'.add ⟨a.at_, t.go y.tups (Go.of s)⟩
theorem Lz.newL (y : Lz D B w g c H0 H es) (np : H p = none) (hU : upd H p (.lst xs) = H') (t : BtL B W Dp w g H xs) : Lz D B w g c H0 H' (.ls p xs W Dp :: es) := by
  obtain ⟨s, y', a⟩ := y.new np hU
  exact y'.add ⟨a, t.go y.tups (Go.of s)⟩
theorem upd_twice {H : Hp} {p : Addr} {a b : HO} : upd (upd H p a) p b = upd H p b := by
  funext x
  by_cases e : x = p
  · rw [e, upd_same, upd_same]
  · rw [upd_ne e, upd_ne e, upd_ne e]
/-- a dict with nothing in it -/
theorem Lz.newD0 (y : Lz D B w g c H0 H es) (np : H p = none) (hU : upd H p (.dK []) = H') : Lz D B w g c H0 H' (.th (.ref p) 0 1 :: es) := by
  obtain ⟨s, y', a⟩ := y.new np hU
  exact y'.addT ⟨.dict [], .dct a.nw a.ng a.at_ .nil, ⟨by simp [Ok, OkKv], by decide, by decide⟩⟩
theorem Lz.get_tp (y : Lz D B w g c H0 H es) (h : .tp a xs W Dp ∈ es) : Bt B W (Dp + 1) w g H (.ref a) := (y.th _ h).2.tup (y.th _ h).1
theorem Lz.get_ls (y : Lz D B w g c H0 H es) (h : .ls a xs W Dp ∈ es) : Bt B W (Dp + 1) w g H (.ref a) := (y.th _ h).2.lst (y.th _ h).1.at_ (y.th _ h).1.nw (y.th _ h).1.ng
theorem Lz.get_th (y : Lz D B w g c H0 H es) (h : .th v W Dp ∈ es) : Bt B W Dp w g H v := y.th _ h
theorem Lz.ls_at (y : Lz D B w g c H0 H es) (h : .ls a xs W Dp ∈ es) : H a = some (.lst xs) := (y.th _ h).1.at_
theorem Lz.ls_ac (y : Lz D B w g c H0 H es) (h : .ls a xs W Dp ∈ es) : Ac w g c H a (.lst xs) := (y.th _ h).1
theorem Lz.tp_at (y : Lz D B w g c H0 H es) (h : .tp a xs W Dp ∈ es) : H a = some (.tup xs) := (y.th _ h).1
theorem Lz.ls_bt (y : Lz D B w g c H0 H es) (h : .ls a xs W Dp ∈ es) : BtL B W Dp w g H xs := (y.th _ h).2
theorem Lz.tp_bt (y : Lz D B w g c H0 H es) (h : .tp a xs W Dp ∈ es) : BtL B W Dp w g H xs := (y.th _ h).2
theorem Lz.kT {G : Prop} (y : Lz D B w g c H0 H es) (np : H p = none) (hU : upd H p (.tup xs) = H') (t : BtL B W Dp w g H xs) (k : Lz D B w g c H0 H' (.tp p xs W Dp :: es) → G) : G := k (y.newT np hU t)
theorem Lz.kL {G : Prop} (y : Lz D B w g c H0 H es) (np : H p = none) (hU : upd H p (.lst xs) = H') (t : BtL B W Dp w g H xs) (k : Lz D B w g c H0 H' (.ls p xs W Dp :: es) → G) : G := k (y.newL np hU t)
theorem Lz.kD0 {G : Prop} (y : Lz D B w g c H0 H es) (np : H p = none) (hU : upd H p (.dK []) = H') (k : Lz D B w g c H0 H' (.th (.ref p) 0 1 :: es) → G) : G := k (y.newD0 np hU)
/-- two lists one behind the other -/
theorem Lz.kCat {b : Addr} {ys : List V} {W2 D2 : Nat} {Q : VK} (y : Lz D B w g c H0 H es) (h1 : .ls a xs W Dp ∈ es) (h2 : .ls b ys W2 D2 ∈ es) (hz : W + W2 ≤ 10000000)
    (k : ∀ p H', Lz D B w g c H0 H' (.ls p (xs ++ ys) (W + W2) (max Dp D2) :: es) → Q (.ref p) H') :
    rCat (.ref a) (.ref b) H Q := by
  have l1 := (y.ls_bt h1).len
  have l2 := (y.ls_bt h2).len
  exact ⟨a, b, xs, ys, rfl, rfl, y.ls_at h1, y.ls_at h2, Nat.le_trans (by omega) (show 10000000 ≤ sizeLine by decide), fun p np => k p _ (y.newL np rfl ((y.ls_bt h1).app (y.ls_bt h2)))⟩
/-- a dict with one entry, displayed -/
theorem Lz.dict1 {W1 : Nat} {H1 H2 H3 : Hp} {k : Key} (z : Lz D B w g c H0 H1 es) (np : H1 p = none) (hU : upd H1 p (.dK []) = H2) (hV : upd H2 p (.dK [(k, v)]) = H3) (bk : Bd B W1 0 (kD k)) (b : Bt B W Dp w g H1 v) :
    Lz D B w g c H0 H3 (.th (.ref p) (W1 + W + 2) (Dp + 1) :: es) := by
  subst hU
  rw [upd_twice] at hV
  obtain ⟨s, y', a⟩ := z.new np hV
  obtain ⟨d, t, bd⟩ := b.go z.tups (Go.of s)
  refine y'.addT ⟨.dict [(kD k, d)], .dct a.nw a.ng a.at_ (.cons t .nil), ?_, ?_, ?_⟩
  · simp only [Ok, OkKv]
    exact ⟨bk.ok, bd.ok, trivial⟩
  · have h1 := bk.wt
    have h2 := bd.wt
    simp only [PyData.weight, PyData.weightKv]
    omega
  · have h1 := bk.dp
    have h2 := bd.dp
    simp only [PyData.depth, PyData.depthKv]
    omega
theorem Lz.kDk {G : Prop} (y : Lz D B w g c H0 H es) (np : H p = none) (hU : upd H p (.dK []) = H') (k : Lz D B w g c H0 H es ∧ H p = none ∧ upd H p (.dK []) = H' ∧ H' p = some (.dK []) → Lz D B w g c H0 H' (.th (.ref p) 0 1 :: es) → G) : G := k ⟨y, np, hU, by rw [← hU]; exact upd_same⟩ (y.newD0 np hU)
theorem Lz.kSl {K : PySem.W.Frag} {lo hi : Option Int} {Q : VK} (y : Lz D B w g c H0 H es) (h : .tp a xs W Dp ∈ es)
    (k : ∀ p H', Lz D B w g c H0 H' (.tp p (cutV xs lo hi) W Dp :: es) → Q (.ref p) H') : rSlA K (.ref a) lo hi H Q :=
  sl_all (y.tp_at h) fun p H' s hp => k p H' ((y.same s).add ⟨hp, ((y.tp_bt h).go y.tups (Go.of s)).cut lo hi⟩)
theorem Lz.kCatT {K : PySem.W.Frag} {b : Addr} {ys : List V} {W2 D2 : Nat} {Q : VK} (y : Lz D B w g c H0 H es) (h1 : .tp a xs W Dp ∈ es) (h2 : .tp b ys W2 D2 ∈ es) (hz : W + W2 ≤ 10000000)
    (k : ∀ p H', Lz D B w g c H0 H' (.tp p (xs ++ ys) (W + W2) (max Dp D2) :: es) → Q (.ref p) H') : rCatA K (.ref a) (.ref b) H Q := by
  have l1 := (y.tp_bt h1).len
  have l2 := (y.tp_bt h2).len
  exact cat_all (y.tp_at h1) (y.tp_at h2) (Nat.le_trans (by omega) (show 10000000 ≤ sizeLine by decide)) fun p H' s hp => k p H' ((y.same s).add ⟨hp, ((y.tp_bt h1).go y.tups (Go.of s)).app ((y.tp_bt h2).go y.tups (Go.of s))⟩)
end
section
variable {B W D : Nat} {w g : Addr} {H : Hp} {v : V} {xs : List V}
theorem BtL.split {j : Nat} (x : BtL B W D w g H xs) (h : xs[j]? = some v) : ∃ W1 W2 W3, BtL B W1 D w g H (xs.take j) ∧ Bt B W2 D w g H v ∧ BtL B W3 D w g H (xs.drop (j + 1)) ∧ W1 + (W2 + 1) + W3 ≤ W := by
  obtain ⟨ds, t, b⟩ := x
  obtain ⟨d, hd, td⟩ := t.get h
  have e1 := weight_take ds j
  have e2 : ds.drop j = d :: ds.drop (j + 1) := by
    obtain ⟨hi, rfl⟩ := List.getElem?_eq_some_iff.mp hd
    exact List.drop_eq_getElem_cons hi
  rw [e2] at e1
  simp only [PyData.weightAll] at e1
  have bw := b.wt
  refine ⟨_, _, _, ⟨_, t.take j, ⟨fun d h => b.ok d (List.mem_of_mem_take h), Nat.le_refl _, fun d h => b.dp d (List.mem_of_mem_take h)⟩⟩,
    ⟨d, td, ⟨b.ok d (List.mem_of_getElem? hd), Nat.le_refl _, b.dp d (List.mem_of_getElem? hd)⟩⟩,
    ⟨_, t.drop (j + 1), ⟨fun d h => b.ok d (List.mem_of_mem_drop h), Nat.le_refl _, fun d h => b.dp d (List.mem_of_mem_drop h)⟩⟩, ?_⟩
  omega
theorem Bt.tupE {ds : List PyData} {a : Addr} (h : H a = some (.tup xs)) (t : ThAll w g H xs ds) (b : Bd B W D (.tuple ds)) : 1 ≤ D ∧ BtL B W (D - 1) w g H xs := ⟨b.un.1, _, t, b.un.2⟩
end
theorem Lz.up {D : Hp → Prop} {B B' : Nat} {w g c : Addr} {H0 H : Hp} {es : List En} (y : Lz D B w g c H0 H es) (h : B ≤ B') : Lz D B' w g c H0 H es :=
  ⟨y.ok, y.go, y.dk, fun e he => by
    have := y.th e he
    cases e with
    | th v W D => exact Bt.mono this h (Nat.le_refl _) (Nat.le_refl _)
    | ls a xs W D => exact ⟨this.1, this.2.mono h (Nat.le_refl _) (Nat.le_refl _)⟩
    | tp a xs W D => exact ⟨this.1, this.2.mono h (Nat.le_refl _) (Nat.le_refl _)⟩⟩
/-- the same tuple with a better bound -/
theorem Lz.fine {D : Hp → Prop} {B W W' Dp : Nat} {w g c a : Addr} {xs : List V} {H0 H : Hp} {es : List En} (y : Lz D B w g c H0 H (.tp a xs W Dp :: es)) (h : BtL B W' Dp w g H xs) : Lz D B w g c H0 H (.tp a xs W' Dp :: es) :=
  ⟨y.ok, y.go, y.dk, fun e he => by
    rcases List.mem_cons.mp he with q | q
    · subst q
      exact ⟨(y.th _ (List.Mem.head _)).1, h⟩
    · exact y.th e (List.mem_cons_of_mem _ q)⟩
/-- each of them -/
def BtA (B W D : Nat) (w g : Addr) (H : Hp) (vs : List V) : Prop := ∀ v ∈ vs, Bt B W D w g H v
theorem BtA.nil {B W D : Nat} {w g : Addr} {H : Hp} : BtA B W D w g H [] := fun _ h => by cases h
theorem BtA.cons {B W D : Nat} {w g : Addr} {H : Hp} {v : V} {vs : List V} (x : Bt B W D w g H v) (y : BtA B W D w g H vs) : BtA B W D w g H (v :: vs) := fun u h => by
  rcases List.mem_cons.mp h with rfl | h
  · exact x
  · exact y u h
theorem BtA.app {B W D : Nat} {w g : Addr} {H : Hp} {us vs : List V} (x : BtA B W D w g H us) (y : BtA B W D w g H vs) : BtA B W D w g H (us ++ vs) := fun u h =>
  (List.mem_append.mp h).elim (x u) (y u)
theorem Bt.mono2 {B W D W' D' : Nat} {w g : Addr} {H : Hp} {v : V} (x : Bt B W D w g H v) (h2 : W ≤ W') (h3 : D ≤ D') : Bt B W' D' w g H v := x.mono (Nat.le_refl _) h2 h3
theorem Bt.intText {B : Nat} {w g : Addr} {H : Hp} {i : Int} (h : i.natAbs ≤ B) (hB : B < 10 ^ 38) : Bt B 100 0 w g H (.str (Str.ofString (toString i))) :=
  ⟨_, .str _, bd_str _ (by have := int_text_length_le10 (a := i) (k := 38) (by decide) (by omega); rw [PySem.ofString_length]; omega)⟩
theorem Bt.blText {B : Nat} {w g : Addr} {H : Hp} {b : Bool} : Bt B 100 0 w g H (.str (if b then "True" else "False")) := by
  cases b <;> exact ⟨_, .str _, bd_str _ (by decide +kernel)⟩
section
variable {D : Hp → Prop} {B W Dp : Nat} {w g c a : Addr} {H0 H : Hp} {es : List En} {xs : List V}
/-- a tuple again and again -/
theorem Lz.kRep {K : PySem.W.Frag} {n : Int} {Q : VK} (y : Lz D B w g c H0 H es) (h : .tp a xs W Dp ∈ es) (hne : xs ≠ []) (n1 : 1 ≤ n) (n2 : n ≤ 1000) (hW : W ≤ 1000)
    (k : ∀ p H', Lz D B w g c H0 H' (.tp p (List.replicate n.toNat xs).flatten (n.toNat * W) Dp :: es) → Q (.ref p) H') : rRepA K (.ref a) (.int n) H Q := by
  have l1 := (y.tp_bt h).len
  refine rep_all (y.tp_at h) hne n1 (by omega) ?_ fun p H' s hp => k p H' ((y.same s).add ⟨hp, ((y.tp_bt h).go y.tups (Go.of s)).rep n.toNat⟩)
  refine Nat.le_trans (Nat.mul_le_mul (show n.toNat ≤ 1000 by omega) (show xs.length ≤ 1000 by omega)) (by decide)
end
/-- a number within bounds -/
def Nm (lo hi : Int) (v : V) : Prop := ∃ i : Int, v = .int i ∧ lo ≤ i ∧ i ≤ hi
def NmA (lo hi : Int) (vs : List V) : Prop := ∀ v ∈ vs, Nm lo hi v
theorem NmA.nil {lo hi : Int} : NmA lo hi [] := fun _ h => by cases h
theorem NmA.cons {lo hi i : Int} {vs : List V} (h1 : lo ≤ i) (h2 : i ≤ hi) (y : NmA lo hi vs) : NmA lo hi (.int i :: vs) := fun u h => by
  rcases List.mem_cons.mp h with rfl | h
  · exact ⟨i, rfl, h1, h2⟩
  · exact y u h
theorem BtA.go {B W D : Nat} {w g : Addr} {H H' : Hp} {vs : List V} (x : BtA B W D w g H vs) (T : TupOk w g H) (s : Go w g H H') : BtA B W D w g H' vs := fun v h => (x v h).go T s
theorem BtA.mono {B W D B' W' D' : Nat} {w g : Addr} {H : Hp} {vs : List V} (x : BtA B W D w g H vs) (h1 : B ≤ B') (h2 : W ≤ W') (h3 : D ≤ D') : BtA B' W' D' w g H vs := fun v h => (x v h).mono h1 h2 h3
end G1
/-! what judges share: numbers within bounds, pairs, triples, rows that rise -/
namespace G1
open PySem PySem.Spec PyProof.Rows L2 RZ
def wholeD (lo hi : Int) : PyData → Bool
  | .int i => decide (lo ≤ i) && decide (i ≤ hi)
  | _ => false
def pairD : PyData → Bool
  | .tuple [_, _] => true
  | _ => false
def tripD : PyData → Bool
  | .tuple [_, _, _] => true
  | _ => false
theorem pair_of {d : PyData} (h : pairD d = true) : ∃ a b, d = .tuple [a, b] := by
  unfold pairD at h
  split at h
  · exact ⟨_, _, rfl⟩
  · cases h
theorem trip_of {d : PyData} (h : tripD d = true) : ∃ a b c, d = .tuple [a, b, c] := by
  unfold tripD at h
  split at h
  · exact ⟨_, _, _, rfl⟩
  · cases h
theorem whole_int {lo hi : Int} {d : PyData} (h : wholeD lo hi d = true) : ∃ i, d = .int i ∧ lo ≤ i ∧ i ≤ hi := by
  unfold wholeD at h
  split at h
  · rw [Bool.and_eq_true, decide_eq_true_eq, decide_eq_true_eq] at h
    exact ⟨_, rfl, h.1, h.2⟩
  · cases h
theorem szl2 {n : Nat} (h : n ≤ 1000000) : n < sizeLine := Nat.lt_of_le_of_lt h (by decide)
theorem szl3 {n : Nat} (h : n ≤ 1000000) : n ≤ sizeLine := Nat.le_trans h (by decide)
def spWhole : Sp := fun vs H Q _ => ∃ (w g : Addr) (v : V) (d : PyData) (lo hi : Int), vs = [v, .int lo, .int hi] ∧ Th w g H v d ∧ Q (.bl (wholeD lo hi d)) H
def spTrip : Sp := fun vs H Q _ => ∃ (w g : Addr) (v : V) (d : PyData), vs = [v] ∧ Th w g H v d ∧ Q (.bl (tripD d)) H
def spIsPair : Sp := fun vs H Q _ => ∃ (w g : Addr) (v : V) (d : PyData), vs = [v] ∧ Th w g H v d ∧ Q (.bl (pairD d)) H
/-! ### a one for each that is not -/
section
variable {α : Type} {p : α → Bool} {ds : List α} {d : α} {i : Nat}
def ones (ds : List α) (p : α → Bool) : List Int := (ds.filter fun d => !p d).map fun _ => (1 : Int)
theorem ones_bad (hd : ds[i]? = some d) (h : p d = false) : ones (ds.take (i + 1)) p = ones (ds.take i) p ++ [1] := by
  unfold ones
  rw [List.take_add_one, hd, List.filter_append, List.map_append]
  simp [h]
theorem ones_ok (hd : ds[i]? = some d) (h : p d = true) : ones (ds.take (i + 1)) p = ones (ds.take i) p := by
  unfold ones
  rw [List.take_add_one, hd, List.filter_append, List.map_append]
  simp [h]
theorem ones_len : (ones (ds.take i) p).length ≤ ds.length := by
  unfold ones
  rw [List.length_map]
  refine Nat.le_trans (List.length_filter_le _ _) ?_
  rw [List.length_take]
  omega
theorem ones_all : decide (ones ds p = []) = ds.all p := by
  rw [Bool.eq_iff_iff, decide_eq_true_eq]
  unfold ones
  rw [List.map_eq_nil_iff, List.filter_eq_nil_iff, List.all_eq_true]
  constructor
  · intro h d hd
    have := h d hd
    cases hh : p d with
    | true => rfl
    | false => rw [hh] at this; exact absurd rfl this
  · intro h d hd
    rw [h d hd]
    decide
end
/-! ### enumerate over a tuple as a walk -/
theorem walk_enT {K : PySem.W.Frag} {a : Addr} {xs : List V} : Walk (Iten K a) xs.length (fun H => SqT K H a xs) (YPair (fun i => some (.int (i : Nat))) (fun i => xs[i]?)) := by
  refine ⟨fun i H hi q => ⟨xs, xs[i]'(by omega), q, by simp [show i < xs.length by omega]⟩, fun H q => ⟨xs, q, rfl⟩, fun i H v H' hi q y => ?_⟩
  obtain ⟨T, x, rfl, hT, rfl, h1⟩ := y
  exact ⟨T, _, x, rfl, hT, rfl, rfl, h1 xs q⟩
/-! ### < of numbers or of tuples of numbers -/
section
variable {X : Cx}
/-- < of two numbers, or of two tuples of numbers -/
def rLtX (K : PySem.W.Frag) : R2 := fun x y H Q => (∃ i j, x = .int i ∧ y = .int j ∧ Q (.bl (decide (i < j))) H) ∨ rLtT K x y H Q
theorem op_ltX {k : Nat} {K : PySem.W.Frag} (hK : X.K = K) (hr : Room k X.A) : OpR X (compareOp .Lt) (rLtX K) := by
  subst hK
  intro pins s σ H x y v u Q I rx ry h
  rcases h with h | h
  · exact op_lt pins s σ H x y v u Q I rx ry h
  · exact op_ltT (Nat.lt_of_succ_lt (hu_of hr)) pins s σ H x y v u Q I rx ry h
end
/-! ### rows that rise -/
def ltD : PyData → PyData → Bool
  | .int i, .int j => decide (i < j)
  | .tuple [.int a, .int b], .tuple [.int c, .int e] => HT.lexLt [a, b] [c, e]
  | _, _ => false
/-- numbers all, or pairs of numbers all -/
def Comp (ds : List PyData) : Prop := (∀ d ∈ ds, ∃ i, d = .int i) ∨ ∀ d ∈ ds, ∃ a b, d = .tuple [.int a, .int b]
def adj (ds : List PyData) : List Bool := List.zipWith ltD ds (ds.drop 1)
def ascD (ds : List PyData) : Bool := (adj ds).all id
theorem adj_len (ds : List PyData) : (adj ds).length = ds.length - 1 := by
  unfold adj
  rw [List.length_zipWith, List.length_drop]
  omega
theorem adj_get {ds : List PyData} {i : Nat} {x y : PyData} (h1 : ds[i]? = some x) (h2 : (ds.drop 1)[i]? = some y) : (adj ds)[i]? = some (ltD x y) := by
  unfold adj
  rw [List.getElem?_zipWith, h1, h2]
theorem adj_take {ds : List PyData} {i : Nat} {x y : PyData} (h1 : ds[i]? = some x) (h2 : (ds.drop 1)[i]? = some y) : (adj ds).take (i + 1) = (adj ds).take i ++ [ltD x y] := by
  rw [List.take_add_one, adj_get h1 h2]
  rfl
theorem Comp.of {ds : List PyData} {x y : PyData} (c : Comp ds) (hx : x ∈ ds) (hy : y ∈ ds) : (∃ i j, x = .int i ∧ y = .int j) ∨ ∃ a b k e, x = .tuple [.int a, .int b] ∧ y = .tuple [.int k, .int e] := by
  rcases c with c | c
  · obtain ⟨i, rfl⟩ := c x hx
    obtain ⟨j, rfl⟩ := c y hy
    exact .inl ⟨i, j, rfl, rfl⟩
  · obtain ⟨a, b, rfl⟩ := c x hx
    obtain ⟨k, e, rfl⟩ := c y hy
    exact .inr ⟨a, b, k, e, rfl, rfl⟩
theorem Th.two {w g : Addr} {H : Hp} {v : V} {a b : Int} (t : Th w g H v (.tuple [.int a, .int b])) : ∃ p, v = .ref p ∧ H p = some (.tup [.int a, .int b]) := by
  cases t with
  | tup h ta =>
    cases ta with
    | cons t1 ta =>
      cases ta with
      | cons t2 ta =>
        cases ta
        cases t1
        cases t2
        exact ⟨_, rfl, h⟩
theorem lt_go {K : PySem.W.Frag} {w g : Addr} {H : Hp} {x y : V} {dx dy : PyData} {ds : List PyData} {Q : VK} (c : Comp ds) (hx : dx ∈ ds) (hy : dy ∈ ds) (tx : Th w g H x dx) (ty : Th w g H y dy) (q : Q (.bl (ltD dx dy)) H) :
    rLtX K x y H Q := by
  rcases c.of hx hy with ⟨i, j, rfl, rfl⟩ | ⟨a, b, k, e, rfl, rfl⟩
  · cases tx
    cases ty
    exact .inl ⟨i, j, rfl, rfl, q⟩
  · obtain ⟨p1, rfl, h1⟩ := tx.two
    obtain ⟨p2, rfl, h2⟩ := ty.two
    exact .inr ⟨p1, p2, [a, b], [k, e], rfl, rfl, sqT_of h1, sqT_of h2, q⟩
/-! ### slices and sums of tuples of things -/
theorem no_part {σ : L2.St} {H : Hp} {Q : Option Int → Hp → Prop} (h : Q none H) : tNoPart σ H Q := h
theorem cutV_from (xs : List V) (n : Nat) : cutV xs (some (n : Int)) none = xs.drop n := by
  by_cases h : n ≤ xs.length
  · unfold cutV
    rw [sIx_of _ _ (by omega)]
    show (xs.drop (min (n : Int).toNat xs.length)).take (xs.length - min (n : Int).toNat xs.length) = _
    rw [Int.toNat_natCast, Nat.min_eq_left h, List.take_of_length_le (by rw [List.length_drop]; exact Nat.le_refl _)]
  · unfold cutV
    rw [sIx_of _ _ (by omega)]
    show (xs.drop (min (n : Int).toNat xs.length)).take (xs.length - min (n : Int).toNat xs.length) = _
    rw [Int.toNat_natCast, Nat.min_eq_right (by omega), Nat.sub_self, List.take_zero, List.drop_of_length_le (by omega)]
theorem cutV_to (xs : List V) (n : Nat) : cutV xs none (some (n : Int)) = xs.take n := by
  unfold cutV
  rw [sIx_of _ _ (by omega)]
  show (xs.drop 0).take (min (n : Int).toNat xs.length - 0) = _
  rw [List.drop_zero, Nat.sub_zero, Int.toNat_natCast, ← List.take_eq_take_min]
theorem cutV_one (xs : List V) : cutV xs (some 1) none = xs.drop 1 := cutV_from xs 1
theorem cutV_two (xs : List V) : cutV xs (some 2) none = xs.drop 2 := cutV_from xs 2
/-! ### numbers one after another -/
theorem asc_two (a b : PyData) (l : List PyData) : ascD (a :: b :: l) = (ltD a b && ascD (b :: l)) := rfl
theorem asc_sorted : ∀ ns : List Int, ns.Pairwise (· ≤ ·) → (ascD (ns.map PyData.int) = true ↔ ns.Nodup)
  | [], _ => by simp [ascD, adj]
  | [a], _ => by simp [ascD, adj]
  | a :: b :: l, h => by
    have ih := asc_sorted (b :: l) (List.pairwise_cons.mp h).2
    have ha := (List.pairwise_cons.mp h).1
    have hb := (List.pairwise_cons.mp (List.pairwise_cons.mp h).2).1
    rw [List.map_cons, List.map_cons, asc_two, Bool.and_eq_true, ← List.map_cons, ih, List.nodup_cons (a := a)]
    have e : ltD (.int a) (.int b) = decide (a < b) := rfl
    rw [e, decide_eq_true_eq]
    constructor
    · rintro ⟨h1, h2⟩
      refine ⟨fun m => ?_, h2⟩
      rcases List.mem_cons.mp m with rfl | m
      · omega
      · have := hb a m
        omega
    · rintro ⟨h1, h2⟩
      refine ⟨?_, h2⟩
      have h3 := ha b List.mem_cons_self
      have h4 : a ≠ b := fun e => h1 (e ▸ List.mem_cons_self)
      omega
theorem asc_perm {ns ns' : List Int} (p : ns'.Perm ns) (h : ns'.Pairwise (· ≤ ·)) : ascD (ns'.map PyData.int) = decide ns.Nodup := by
  rw [Bool.eq_iff_iff, decide_eq_true_eq, asc_sorted ns' h, p.nodup_iff]
theorem nodup_snoc {l : List Int} {x : Int} : (l ++ [x]).Nodup ↔ l.Nodup ∧ x ∉ l := by
  rw [List.nodup_append]
  simp
  intro _
  constructor
  · intro h m
    exact h x m rfl
  · intro h a m e
    exact h (e ▸ m)
theorem in_ints (x : Int) (l : List Int) : inV (.int x) (l.map V.int) = decide (x ∈ l) := by
  rw [Bool.eq_iff_iff, decide_eq_true_eq]
  simp [inV, eqV]
theorem th_ints {w g : Addr} {H : Hp} : ∀ ns : List Int, ThAll w g H (ns.map V.int) (ns.map PyData.int)
  | [] => .nil
  | n :: ns => .cons (.int n) (th_ints ns)
theorem ThAll.two {w g : Addr} {H : Hp} {xs : List V} {d1 d2 : PyData} (t : ThAll w g H xs [d1, d2]) : ∃ v1 v2, xs = [v1, v2] ∧ Th w g H v1 d1 ∧ Th w g H v2 d2 := by
  cases t with
  | cons t1 t => cases t with
    | cons t2 t => cases t; exact ⟨_, _, rfl, t1, t2⟩
theorem ThAll.three {w g : Addr} {H : Hp} {xs : List V} {d1 d2 d3 : PyData} (t : ThAll w g H xs [d1, d2, d3]) : ∃ v1 v2 v3, xs = [v1, v2, v3] ∧ Th w g H v1 d1 ∧ Th w g H v2 d2 ∧ Th w g H v3 d3 := by
  cases t with
  | cons t1 t => cases t with
    | cons t2 t => cases t with
      | cons t3 t => cases t; exact ⟨_, _, _, rfl, t1, t2, t3⟩
theorem Th.tupE {w g : Addr} {H : Hp} {v : V} {ds : List PyData} (t : Th w g H v (.tuple ds)) : ∃ a xs, v = .ref a ∧ H a = some (.tup xs) ∧ ThAll w g H xs ds := by
  cases t with
  | tup h ta => exact ⟨_, _, rfl, h, ta⟩
theorem Th.pair {w g : Addr} {H : Hp} {v : V} {d1 d2 : PyData} (t : Th w g H v (.tuple [d1, d2])) : ∃ a v1 v2, v = .ref a ∧ H a = some (.tup [v1, v2]) ∧ Th w g H v1 d1 ∧ Th w g H v2 d2 := by
  obtain ⟨a, xs, rfl, h, ta⟩ := t.tupE
  obtain ⟨v1, v2, rfl, t1, t2⟩ := ta.two
  exact ⟨a, v1, v2, rfl, h, t1, t2⟩
theorem Th.triple {w g : Addr} {H : Hp} {v : V} {d1 d2 d3 : PyData} (t : Th w g H v (.tuple [d1, d2, d3])) : ∃ a v1 v2 v3, v = .ref a ∧ H a = some (.tup [v1, v2, v3]) ∧ Th w g H v1 d1 ∧ Th w g H v2 d2 ∧ Th w g H v3 d3 := by
  obtain ⟨a, xs, rfl, h, ta⟩ := t.tupE
  obtain ⟨v1, v2, v3, rfl, t1, t2, t3⟩ := ta.three
  exact ⟨a, v1, v2, v3, rfl, h, t1, t2, t3⟩
/-- a word or nothing -/
def vO : Option Str → V
  | none => .non
  | some s => .str s
def dO : Option Str → PyData
  | none => .none
  | some s => .str s
theorem th_O {w g : Addr} {H : Hp} (o : Option Str) : Th w g H (vO o) (dO o) := by
  cases o
  · exact .non
  · exact .str _
theorem isTupD_ne {d : PyData} (h : isTupD d = false) (R : List PyData → Prop) : ∀ ds, d = .tuple ds → R ds := fun ds e => by
  subst e
  cases h
/-! ### within comprehensions the fragment is to be named -/
section
variable {X : Cx} {K : PySem.W.Frag}
theorem sl_listK (hK : X.K = K) : SlR X (rSlL K) := hK ▸ sl_list
theorem ix_tupK (hK : X.K = K) : IxR X (rIxT K) := hK ▸ ix_tup
theorem op_inK (hK : X.K = K) : OpR X (compareOp .In) (rIn K false) := hK ▸ op_in_seq
theorem op_notInK (hK : X.K = K) : OpR X (compareOp .NotIn) (rIn K true) := hK ▸ op_notIn_seq
end
section
variable {X : Cx}
/-- == of a number or a truth, and a number -/
theorem op_eqX : OpR X (compareOp .Eq) (fun x y H Q => rEq x y H Q ∨ ∃ b j, x = .bl b ∧ y = .int j ∧ Q (.bl ((if b = true then (1 : Int) else 0) == j)) H) := by
  intro pins s σ H x y v u Q I rx ry h
  rcases h with h | ⟨b, j, rfl, rfl, q⟩
  · exact op_eq pins s σ H x y v u Q I rx ry h
  · cases rx
    obtain ⟨t', rfl⟩ := ry
    exact PySem.EqBoolInt.eq_bool_int ⟨.bl _, H, I, rfl, q⟩
end
/-! ### pairs of numbers -/
def PrA (B : Nat) (H : Hp) (xs : List V) : Prop := ∀ x ∈ xs, ∃ (q : Addr) (a b : Int), x = .ref q ∧ H q = some (.tup [.int a, .int b]) ∧ a.natAbs ≤ B ∧ b.natAbs ≤ B
theorem PrA.nil {B : Nat} {H : Hp} : PrA B H [] := fun _ h => by cases h
theorem PrA.go {B : Nat} {w g : Addr} {H H' : Hp} {xs : List V} (p : PrA B H xs) (T : TupOk w g H) (s : Go w g H H') : PrA B H' xs := fun x hx => by
  obtain ⟨q, a, b, e, h, r⟩ := p x hx
  exact ⟨q, a, b, e, s _ _ (T _ _ h).1 (T _ _ h).2 h, r⟩
theorem PrA.upd {B : Nat} {H : Hp} {L : Addr} {ys : List V} {o : HO} {xs : List V} (p : PrA B H xs) (hL : H L = some (.lst ys)) : PrA B (upd H L o) xs := fun x hx => by
  obtain ⟨q, a, b, e, h, r⟩ := p x hx
  refine ⟨q, a, b, e, ?_, r⟩
  rw [upd_ne (ne_of h hL (by intro z; cases z))]
  exact h
theorem PrA.snoc {B : Nat} {H : Hp} {xs : List V} {q : Addr} {a b : Int} (p : PrA B H xs) (h : H q = some (.tup [.int a, .int b])) (ha : a.natAbs ≤ B) (hb : b.natAbs ≤ B) : PrA B H (xs ++ [.ref q]) := fun x hx => by
  rcases List.mem_append.mp hx with hx | hx
  · exact p x hx
  · rw [List.mem_singleton] at hx
    exact ⟨q, a, b, hx, h, ha, hb⟩
theorem PrA.perm {B : Nat} {H : Hp} {xs ys : List V} (p : PrA B H xs) (h : ys.Perm xs) : PrA B H ys := fun x hx => p x (h.mem_iff.mp hx)
theorem PrA.bt {B : Nat} (hB : B < 10 ^ 38) {w g : Addr} {H : Hp} : ∀ {xs : List V}, PrA B H xs → BtL B (xs.length * 257) 1 w g H xs
  | [], _ => BtL.nil.mono (Nat.le_refl _) (Nat.zero_le _) (Nat.zero_le _)
  | x :: xs, p => by
    obtain ⟨q, a, b, rfl, h, ha, hb⟩ := p x (List.mem_cons_self ..)
    have h1 : BtL B _ 0 w g H [.int a, .int b] := BtL.cons (Bt.int ha hB) (BtL.cons (Bt.int hb hB) BtL.nil)
    exact ((h1.tup h).mono2 (show _ ≤ 256 by decide) (Nat.le_refl _) |> fun z => (BtL.cons z (PrA.bt hB fun y hy => p y (List.mem_cons_of_mem _ hy))).mono (Nat.le_refl _) (by rw [List.length_cons]; omega) (by decide))
theorem ints_bt {B : Nat} (hB : B < 10 ^ 38) {w g : Addr} {H : Hp} : ∀ {ns : List Int}, (∀ n ∈ ns, n.natAbs ≤ B) → BtL B (ns.length * 128) 0 w g H (ns.map V.int)
  | [], _ => BtL.nil.mono (Nat.le_refl _) (Nat.zero_le _) (Nat.zero_le _)
  | n :: ns, h => (BtL.cons (Bt.int (h n (List.mem_cons_self ..)) hB) (ints_bt hB fun y hy => h y (List.mem_cons_of_mem _ hy))).mono (Nat.le_refl _) (by rw [List.length_cons]; omega) (by decide)
/-! ### a dict of the module: texts to numbers -/
def dvOk (kvs : List (Str × Int)) (z : Str) (r : Option Value) : Prop := match kvs.lookup z with
  | none => r = none
  | some k => ∃ t, r = some (.int k t)
def lookE (es : Array DictEntry) (z : Str) : Option (Option Value) := match es.toList.find? (fun x => x.key.isStr z) with
  | some e => some (some e.val)
  | none => if (es.toList.any fun x => x.refKey) = true then none else some none
theorem ns_look {K : PySem.W.Frag} {a : Addr} {es : Array DictEntry} {n : Nat} (l : K.lookup a = some { cls := .type "dict", data := .dict es n }) (z : Str) : PySem.W.nsIn K a z = lookE es z := by
  unfold PySem.W.nsIn lookE
  rw [l]
  dsimp only
  cases es.toList.find? (fun x => x.key.isStr z) <;> rfl
def MatchE : List DictEntry → List (Str × Int) → Prop
  | [], [] => True
  | e :: es, (k, v) :: kvs => (∃ t, e.key = .str k t) ∧ (∃ t, e.val = .int v t) ∧ MatchE es kvs
  | _, _ => False
theorem match_any : ∀ {es : List DictEntry} {kvs : List (Str × Int)}, MatchE es kvs → (es.any fun x => x.refKey) = false
  | [], _, _ => rfl
  | e :: es, [], h => h.elim
  | e :: es, (k, v) :: kvs, ⟨⟨t, h1⟩, _, h3⟩ => by
    rw [List.any_cons, match_any h3, Bool.or_false]
    unfold DictEntry.refKey
    rw [h1]
theorem match_find : ∀ {es : List DictEntry} {kvs : List (Str × Int)} (z : Str), MatchE es kvs → match kvs.lookup z with
    | none => es.find? (fun x => x.key.isStr z) = none
    | some k => ∃ e t, es.find? (fun x => x.key.isStr z) = some e ∧ e.val = .int k t
  | [], [], z, _ => rfl
  | [], _ :: _, z, h => h.elim
  | e :: es, [], z, h => h.elim
  | e :: es, (k, v) :: kvs, z, ⟨⟨t, h1⟩, ⟨t2, h2⟩, h3⟩ => by
    have ih := match_find z h3
    have e1 : e.key.isStr z = (k == z) := by rw [h1]; rfl
    by_cases c : z = k
    · subst c
      have l1 : List.lookup z ((z, v) :: kvs) = some v := by simp [List.lookup]
      rw [l1]
      exact ⟨e, t2, by rw [List.find?_cons_of_pos (by rw [e1]; simp)], h2⟩
    · have l1 : List.lookup z ((k, v) :: kvs) = List.lookup z kvs := by
        have : (z == k) = false := by simp [c]
        simp [List.lookup, this]
      have f1 : List.find? (fun x => x.key.isStr z) (e :: es) = List.find? (fun x => x.key.isStr z) es := by
        refine List.find?_cons_of_neg ?_
        rw [e1]
        simp
        exact fun q => c q.symm
      rw [l1, f1]
      exact ih
theorem look_match {es : Array DictEntry} {kvs : List (Str × Int)} (h : MatchE es.toList kvs) (z : Str) : ∃ r, lookE es z = some r ∧ dvOk kvs z r := by
  have f := match_find z h
  unfold lookE dvOk
  cases e : kvs.lookup z with
  | none =>
    rw [e] at f
    dsimp only at f ⊢
    rw [f]
    exact ⟨none, by simp [match_any h], rfl⟩
  | some k =>
    rw [e] at f
    obtain ⟨e0, t, h1, h2⟩ := f
    dsimp only
    rw [h1]
    exact ⟨some e0.val, rfl, t, congrArg some h2⟩
/-- t == () of any tuple -/
def rEq0 (K : PySem.W.Frag) : R2 := fun x y H Q => ∃ a b xs, x = .ref a ∧ y = .ref b ∧ SqT K H a xs ∧ SqT K H b [] ∧ Q (.bl xs.isEmpty) H
section
variable {X : Cx}
theorem op_eqT0 (hu : X.A.units + 64 < cLine) : OpR X (compareOp .Eq) (rEq0 X.K) := by
  intro pins s σ H x y v u Q I rx ry h
  obtain ⟨a, b, xs, rfl, rfl, ha, hb, q⟩ := h
  cases rx
  cases ry
  obtain ⟨its, r1, p1, _⟩ := I.tuple ha
  obtain ⟨its2, r2, p2, _⟩ := I.tuple hb
  cases r2
  have R := PySem.SeqAt.RcAt.tuples (A := X.A) (s := s) (e := fun _ => true) p1 p2 (by omega) (fun j h1 h2 => absurd h2 (by simp)) X.prog X.w X.xe (EP X pins σ Q)
  refine R ⟨.bl _, H, I, rfl, ?_⟩
  have e : ((List.range (min its.toArray.size (#[] : Array Value).size)).all (fun _ => true) && its.toArray.size == (#[] : Array Value).size) = xs.isEmpty := by
    have hl := r1.length
    cases xs with
    | nil =>
      cases its with
      | nil => rfl
      | cons c cs => cases hl
    | cons y ys =>
      cases its with
      | nil => cases hl
      | cons c cs => simp
  rw [show ((List.range (min its.toArray.size ([] : List Value).toArray.size)).all (fun _ => true) && its.toArray.size == ([] : List Value).toArray.size) = xs.isEmpty from e]
  exact q
end
theorem in_strs (z : Str) (l : List Str) : inV (.str z) (l.map V.str) = decide (z ∈ l) := by
  rw [Bool.eq_iff_iff, decide_eq_true_eq]
  simp [inV, eqV]
section
variable {X : Cx} {K : PySem.W.Frag}
theorem call_isi_K (hK : X.K = K) : CallR X (.builtin "isinstance") (rIsi K) := hK ▸ call_isi
end
end G1
/-! things with no list and no dict in them stay as long as tuples do -/
namespace G1
open PySem PySem.Spec PyProof.Rows L2
mutual
def Pu : PyData → Prop
  | .tuple ds => PuA ds
  | .list _ => False
  | .dict _ => False
  | _ => True
def PuA : List PyData → Prop
  | [] => True
  | d :: ds => Pu d ∧ PuA ds
end
def TupKeep (H H' : Hp) : Prop := ∀ a xs, H a = some (.tup xs) → H' a = some (.tup xs)
theorem TupKeep.upd {H : Hp} {p : Addr} {o u : HO} (h : H p = some o) (no : ∀ xs, o ≠ .tup xs) : TupKeep H (upd H p u) := fun a xs e => by
  rw [upd_ne (fun q => by rw [q, h] at e; exact no xs (Option.some.inj e))]
  exact e
section
variable {w g w' g' : Addr} {H H' : Hp}
mutual
theorem Th.pu (s : TupKeep H H') : ∀ {v : V} {d : PyData}, Th w g H v d → Pu d → Th w' g' H' v d
  | _, _, .non, _ => .non
  | _, _, .bl b, _ => .bl b
  | _, _, .int i, _ => .int i
  | _, _, .str x, _ => .str x
  | _, _, .lst _ _ _ _, h => by simp only [Pu] at h
  | _, _, .tup h t, p => .tup (s _ _ h) (ThAll.pu s t (by simpa only [Pu] using p))
  | _, _, .dct _ _ _ _, h => by simp only [Pu] at h
theorem ThAll.pu (s : TupKeep H H') : ∀ {vs : List V} {ds : List PyData}, ThAll w g H vs ds → PuA ds → ThAll w' g' H' vs ds
  | _, _, .nil, _ => .nil
  | _, _, .cons t ts, p => by
    simp only [PuA] at p
    exact .cons (Th.pu s t p.1) (ThAll.pu s ts p.2)
end
end
end G1
/-! where at least one token is out: str.replace asks for that -/
namespace G1
open PySem PySem.Spec PyProof.Rows L2
theorem thnT {α : Type} {t : Sem α} {Q R : α → Shared → Prop} {M : Model} {A : Around} {E : Value → Shared → Prop} {s : Shared} (h0 : 1 ≤ s.toks) (h : wpAny M A t Q E s) (k : ∀ a s', 1 ≤ s'.toks → Q a s' → R a s') : wpAny M A t R E s :=
  wpAny_mono (PySem.wpAny_toks_of h0 h) (fun a s' q => k a s' q.1 q.2) fun _ _ z => z.2
/-- a promise where a token is out -/
structure FnT (P : Program) (w : World) (K : PySem.W.Frag) (mg : Str → Option Value) (base : Heap) (CX : CXT) (k : Nat) (f : Addr) (fd : FuncData) (ps : List Str) (sp : Sp) : Prop where
  len : ∀ vs H Q E, sp vs H Q E → vs.length = ps.length
  run : ∀ (A : Around) (outer : List Env) (s : Shared) (H : Hp) (args : Args) (us : List Value) (vs : List V) (Q : VK) (E : XK), 1 ≤ s.toks → Room k A → Env0 P w K mg base A outer s H → BindsTo s fd args (ps.zip us) → Vals vs us → sp vs H Q E →
    codeAny (model P w) A (.call (.ref f) args) (CR CX outer P w H s Q E) s
section
variable {P : Program} {w : World} {K : PySem.W.Frag} {mg : Str → Option Value} {base : Heap}
theorem fnT_of {x qual : Str} {st : Stmt} {f : Addr} {fd : FuncData} {N ps : List Str} {k : Nat} {sp : Sp} (F : Fun K x qual st f fd) (S : FnScope N ps (defScope st))
    (len : ∀ vs H Q E, sp vs H Q E → vs.length = ps.length)
    (body : ∀ (cdv : Value) (A : Around) (ou : List Env) (s : Shared) (H : Hp) (vs : List V) (Q : VK) (E : XK),
      Room k (A.deeper (envOfC qual (defScope st) s.heap.objs.size f cdv)) → sp vs H Q E →
      ∃ t, PSsT (cxOf CX0 P w K mg base N qual (defScope st) f cdv A ou s H E) (defBody st) t ∧
        t { nx := fun _ H' => Q .non H', rt := Q } (start N vs) H) :
    FnT P w K mg base CX0 (k + 1) f fd ps sp := by
  obtain ⟨oc, od, kV, doc, pm, an, cdv, ct, osl, rfl, lk, hcd⟩ := F.ex
  refine ⟨len, fun A ou s H args us vs Q E h0 hr e0 hb r hsp => ?_⟩
  have hl := len _ _ _ _ hsp
  have KX : K.In s.heap := e0.mod.kin.keeps fun b o e => (e0.bs b o e).1
  have lim : s.heap.NoLimit := e0.mod.nolimit.keeps fun b o e => (e0.bs b o e).1
  have hkind : ∀ y ∈ ps.zip us, (defScope st).names.lookup y.1 = some .local ∨ ((defScope st).names.lookup y.1 = some .cell ∧ ((cellsFrom (s.heap.objs.size + 1) (defScope st).names []).lookup y.1).isSome = true) := fun ⟨n, v⟩ hy => by
    rcases S.par n (List.of_mem_zip hy).1 with q | q
    · exact .inl q
    · exact .inr ⟨q, PySem.W.cellsFrom_some _ _ _ (.inl q)⟩
  refine codeAny_call_function hr.depth (KX _ _ lk) rfl S.co S.gen rfl (PySem.W.codeRec_of KX hcd) (hb _ _ _ _ ?_)
  refine PySem.wpAny_with_toks h0 (wpAny_mono (E := _) (wpAny_newFunctionEnv_cells S.kind hkind fun env he s1 x => ?_) (fun a s' q => q) (fun e s' q _ => q))
  intro k1
  subst he
  refine ⟨lim.keeps x.toInCall.keep, codeAny_func ?_⟩
  obtain ⟨t, ht, hq⟩ := body cdv A ou s H vs Q E (hr.deeper _) hsp
  have I : Inv (cxOf CX0 P w K mg base N qual (defScope st) f cdv A ou s H E) [] (start N vs) H s1 := inv_start S hr.hd e0 hl r x
  refine wpAny_mono (ht [] s1 (start N vs) H _ k1 I hq) (fun fl s' hs => ?_) fun e s' hs => hs
  cases fl with
  | ret u =>
    obtain ⟨v, σ', H', J, r1, q⟩ := hs
    exact ⟨v, H', J.os, J.bare, J.base, J.hok, r1, q⟩
  | next =>
    obtain ⟨σ', H', J, q⟩ := hs
    exact ⟨V.non, H', J.os, J.bare, J.base, J.hok, rfl, q⟩
  | brk => exact hs.choose_spec.choose_spec.2.elim
  | cont => exact hs.choose_spec.choose_spec.2.elim
end
section
variable {X : Cx} {CX : CXT} {k : Nat} {f : Addr} {fd : FuncData} {ps : List Str} {sp : Sp} {dvs : List V} {ds : List Value} {E : XK} {x : Str} {p pos : Pos} {e : Expr} {es : List Expr} {t : TA}
theorem run_fnT {pins : List (Addr × Obj)} {σ : L2.St} {H : Hp} {s : Shared} {Q : VK} {us : List Value} {vs : List V} (F : FnT X.prog X.w X.K X.mg X.base CX k f fd ps sp) (hr : Room k X.A) (hb : Binds X.K fd ps ds) (hd : Vals dvs ds) (hx : Passes CX X E)
    (h0 : 1 ≤ s.toks) (I : Inv X pins σ H s) (r : Vals vs us) (h : sp (vs ++ dvs) H Q E) : wpAny (model X.prog X.w) X.A (call (.ref f) us) (EP X pins σ Q) X.xe s := by
  have r2 : Vals (vs ++ dvs) (us ++ ds) := r.append hd
  have hl : (us ++ ds).length = ps.length := by rw [← r2.length]; exact F.len _ _ _ _ h
  refine wpAny_call (codeAny_mono (F.run X.A X.stack s H ⟨us, []⟩ (us ++ ds) (vs ++ dvs) Q E h0 hr I.env0 (hb s us I.kIn hl) r2 h) fun r s' hq => ?_)
  cases r with
  | error e => exact hx pins σ H s e s' I hq
  | ok fl =>
    cases fl with
    | ret u => exact I.after hq
    | next => exact False.elim hq
    | brk => exact False.elim hq
    | cont => exact False.elim hq
theorem pet_callT (F : FnT X.prog X.w X.K X.mg X.base CX k f fd ps sp) (hr : Room k X.A) (hg : Gl X x) (hm : X.mg x = some (.ref f)) (hk : PySem.W.keepIn X.K (.ref f) = true) (hb : Binds X.K fd ps ds) (hd : Vals dvs ds) (hx : Passes CX X E)
    (ha : PAT X (e :: es) t) (hdb : (x == ("__debug__" : Str)) = false := by decide) (he : starEach (e :: es) X.env = (false, eval e X.env) :: starEach es X.env := by rfl) (hpl : (backTo pos (starEach es X.env)).any (·.1) = false := by rfl) :
    PET X (.Call (.Name x p) (e :: es) [] pos) (tCall sp dvs E t) := by
  intro pins s σ H Q h0 I h
  refine wpAny_Call_Name_kw (ld_glob I hg hm ?_ hdb)
  refine PySem.W.callWith_K (h₀ := X.base) I.ok.mod.kin hk (thnT h0 (ha pos pins s σ H _ h0 I h) fun us s1 k1 ⟨vs, H1, I1, r, q⟩ => ⟨I1.kIn, ?_⟩) he hpl
  exact run_fnT F hr hb hd hx k1 I1 r q
theorem pet_callBT {id : String} {r : List V → Hp → VK → Prop} (hc : CallR X (.builtin id) r) (hg : Gl X x) (hm : X.mg x = none) (hv : bootBuiltins x = some (.builtin id)) (ha : PAT X (e :: es) t) (hn : x ≠ "__name__" := by decide) (hdb : (x == ("__debug__" : Str)) = false := by decide)
    (he : starEach (e :: es) X.env = (false, eval e X.env) :: starEach es X.env := by rfl) (hpl : (backTo pos (starEach es X.env)).any (·.1) = false := by rfl) : PET X (.Call (.Name x p) (e :: es) [] pos) (tCB r t) := by
  intro pins s σ H Q h0 I h
  refine wpAny_Call_Name_kw (ld_blt I hg hm hv ?_ hn hdb)
  exact PyProof.Rows.callWith_builtin1 (thn (ha pos pins s σ H _ h0 I h) fun us s1 ⟨vs, H1, I1, r1, q1⟩ => hc pins s1 σ H1 vs us Q I1 r1 q1) he hpl
end
section
variable {X : Cx} {a b : Expr} {rest : List Expr} {ta tb te : TE} {tA tB' : TT} {pos : Pos} {e : Expr}
theorem pet_one {op} (h : PET X a ta) : PET X (.BoolOp op [a] pos) ta := fun pins s σ H Q h0 I hw => BoolOp_one (h pins s σ H Q h0 I hw)
theorem pet_and (ha : PE X a ta) (hb : PET X (.BoolOp .And (b :: rest) pos) tb) : PET X (.BoolOp .And (a :: b :: rest) pos) (tAndV ta tb) := by
  intro pins s σ H Q h0 I h
  refine BoolOp_and (thnT h0 (ha.run pins s σ H _ I h) fun v s1 k1 ⟨x, H1, I1, r1, q1⟩ => ?_)
  obtain ⟨c, rfl, q1⟩ := q1
  cases r1
  refine wpAny_truthy_bool ?_
  cases c with
  | true => exact hb pins s1 σ H1 Q k1 I1 q1
  | false => exact ⟨.bl false, H1, I1, rfl, q1⟩
theorem pet_cmpR {op : CmpOp} {r : R2} (ho : OpR X (compareOp op) r) (ha : PET X a ta) (hb : PE X b tb) (hm : behindInMarks op b = false) : PET X (.Compare a [op] [b] pos) (tOp r ta tb) := by
  intro pins s σ H Q h0 I h
  refine wpAny_Compare1 (thn (ha pins s σ H _ h0 I h) fun v s1 ⟨x, H1, I1, r1, q1⟩ => thn (hb.run pins s1 σ H1 _ I1 q1) fun u s2 ⟨y, H2, I2, r2, q2⟩ => ho pins s2 σ H2 x y v u _ I2 r1 r2 q2) hm
def PTT (X : Cx) (e : Expr) (t : TT) : Prop :=
  ∀ (pins : List (Addr × Obj)) (s : Shared) (σ : L2.St) (H : Hp) (Q : Bool → Hp → Prop), 1 ≤ s.toks → Inv X pins σ H s → t σ H Q → wpAny (model X.prog X.w) X.A (isTrue e X.env (eval e X.env)) (TP X pins σ Q) X.xe s
def PWT (X : Cx) (e : Expr) (t : TT) : Prop :=
  ∀ (whole : Sem Value) (pins : List (Addr × Obj)) (s : Shared) (σ : L2.St) (H : Hp) (Q : Bool → Hp → Prop), 1 ≤ s.toks → Inv X pins σ H s → t σ H Q → wpAny (model X.prog X.w) X.A (isTrue e X.env whole) (TP X pins σ Q) X.xe s
theorem PTT.of (h : PT X e tA) : PTT X e tA := fun pins s σ H Q _ I q => h.run pins s σ H Q I q
theorem PWT.pt (h : PWT X e tA) : PTT X e tA := h _
theorem ptt_val (h : PET X e te) (he : ∀ whole, isTrue e X.env whole = (do let v ← whole; standAt e.pos; holding [v] (truthy v)) := by intro _; rfl) : PTT X e (tB te) := by
  intro pins s σ H Q h0 I hw
  refine isTrue_plain (thn (h pins s σ H _ h0 I hw) fun v s1 ⟨x, H1, I1, r1, q1⟩ => ?_) (he _)
  obtain ⟨d, rfl, q⟩ := q1
  cases r1
  exact wpAny_truthy_bool ⟨H1, I1, q⟩
theorem ptt_not (ha : PTT X a tA) : PTT X (.UnaryOp .Not a pos) (tNot tA) := by
  intro pins s σ H Q h0 I h
  exact isTrue_not (ha pins s σ H (fun c H1 => Q (!c) H1) h0 I h)
theorem pwt_or1 (ha : PTT X a tA) : PWT X (.BoolOp .Or [a] pos) tA := by
  intro wh pins s σ H Q h0 I h
  refine isTrue_or (thn (ha pins s σ H Q h0 I h) fun c s1 e => ?_)
  cases c with
  | false => exact isTrue_or_nil e
  | true => exact e
theorem pwt_or (ha : PTT X a tA) (hb : PWT X (.BoolOp .Or (b :: rest) pos) tB') : PWT X (.BoolOp .Or (a :: b :: rest) pos) (tOr tA tB') := by
  intro wh pins s σ H Q h0 I h
  refine isTrue_or (thnT h0 (ha pins s σ H _ h0 I h) fun c s1 k1 ⟨H1, I1, q1⟩ => ?_)
  cases c with
  | true => exact ⟨H1, I1, q1⟩
  | false => exact hb wh pins s1 σ H1 Q k1 I1 q1
theorem pst_ifT {c : Expr} {a b : List Stmt} {tc : TT} {t u : TS} (hc : PTT X c tc) (ha : PSsT X a t) (hb : PSsT X b u) : PST X (.If c a b pos) (tIfS tc t u) := by
  intro pins s σ H D h0 I h
  refine wpAny_If (thnT h0 (hc pins s σ H _ h0 I h) fun d s1 k1 ⟨H1, I1, q1⟩ => ?_)
  cases d with
  | true => exact ha pins s1 σ H1 D k1 I1 q1
  | false => exact hb pins s1 σ H1 D k1 I1 q1
theorem pst_setT {i : Nat} {x : Str} {e : Expr} {te : TE} {pos' : Pos} (hN : X.N.Nodup) (hi : X.N[i]? = some x) (hx : Loc X.env.scope x) (he : PET X e te) (hs : swapsWith e (some (.Name x pos')) pos.line X.env = pure false := by rfl) (hf : X.fn x = true ∨ X.env.scope.names.lookup x = some .local := by first | exact .inl rfl | exact .inr rfl | assumption) :
    PST X (.Assign [.Name x pos'] e pos) (tAsg te (gName i)) := by
  intro pins s σ H D h0 I h
  refine wpAny_Assign_Name (thn (he pins s σ H _ h0 I h) fun v s1 ⟨y, H1, I1, r1, q1⟩ => ?_) hs
  exact store_ok I1 hN hi hx r1 (fun s2 I2 => ⟨_, H1, I2, q1⟩) hf
/-- what is walked, a token out behind it -/
def PI1 (X : Cx) (tg iter : Expr) (wi : TI) : Prop :=
  ∀ (pins : List (Addr × Obj)) (s : Shared) (σ : L2.St) (H : Hp) (R : It → Hp → Prop), Inv X pins σ H s → wi σ H R →
    wpAny (model X.prog X.w) X.A (eval iter X.env) (fun v s1 => 1 ≤ s1.toks ∧ wpAny (model X.prog X.w) X.A (pyIter v) (PIE X pins σ tg R) X.xe s1) X.xe s
theorem pi1_range1 {tg a : Expr} {ta : TA} {p pos : Pos} (hg : Gl X "range") (hm : X.mg "range" = none) (ha : PA X [a] ta) (hs : starEach [a] X.env = [(false, eval a X.env)] := by rfl) : PI1 X tg (.Call (.Name "range" p) [a] [] pos) (iRng1 ta) := by
  intro pins s σ H R I h
  refine Call_ (ld_blt I hg hm boot_range (PyProof.Rows.callWith_type1 (thn (ha.run pos pins s σ H _ I h) fun us s1 ⟨vs, H1, I1, r1, q1⟩ => ?_) hs rfl))
  obtain ⟨j, e, q1, q2, q⟩ := q1
  subst e
  cases r1 with
  | cons r rr =>
    cases rr
    obtain ⟨t, rfl⟩ := r
    exact call_range_1 ⟨by show 1 ≤ s1.toks + 1 + 1; omega, range_it I1 (by omega) (by omega) q1 q2 (by simpa using q)⟩
theorem for_T {tg iter : Expr} {body : List Stmt} {g : TG} {tb : TS} (hp : PassesOwn (model X.prog X.w) X.A X.env X.xe) (hc : X.calm = true) (hg : PG X tg g) (hb : PSsT X body tb) {wi : TI} {D : Ends} {pins : List (Addr × Obj)} {σ : L2.St} {s : Shared}
    (hi : wpAny (model X.prog X.w) X.A (eval iter X.env) (fun v s1 => 1 ≤ s1.toks ∧ wpAny (model X.prog X.w) X.A (pyIter v) (PIE X pins σ tg fun J H1 => ∃ W : Nat → Nat → L2.St → Hp → Prop, (∃ m, W 0 m σ H1) ∧ ∀ i m σ H, W i m σ H →
      (J.stop i H ∧ D.nx σ H) ∨ (J.go i H ∧ ∃ N : L2.St → Hp → Prop, (∀ σ' H', N σ' H' → ∃ m', m' < m ∧ W (i + 1) m' σ' H') ∧ ∀ y H', J.yld i H y H' → g y σ H' fun σ2 H2 => tb { D with nx := N, ct := N, bk := D.nx } σ2 H2)) X.xe s1) X.xe s)
    (hs : ∀ x, foldedSetIterable iter X.env x = pure x := by intro _; rfl) : wpAny (model X.prog X.w) X.A (exec (.For tg iter body [] pos) X.env) (SP X pins D) X.xe s := by
  refine wpAny_For (thn hi fun v s1 ⟨k1, h1⟩ => thnT k1 h1 fun itv s2 k2 h2 => ?_) hs
  obtain ⟨it, fp, tn, J, H2, e, I2, T, st2, f2, W, ⟨m0, w0⟩, turn⟩ := h2
  subst e
  have stat : ∀ {H' : Hp}, (∀ b ∈ fp, H' b = none) → ∀ b ∈ fp, FpOk X pins H' b := fun hn b hb => ⟨hn b hb, (f2 b hb).2⟩
  refine codeAny_forLoop_any (fun n s' => 1 ≤ s'.toks ∧ ∃ i σ' H', Inv X pins σ' H' s' ∧ tn i s'.heap ∧ (∀ b ∈ fp, H' b = none) ∧ W i n σ' H') ?_ m0 ⟨k2, 0, σ, H2, I2, st2, fun b hb => (f2 b hb).1, w0⟩
  rintro n s3 ⟨k3, i, σ3, H3, I3, st3, fr3, w3⟩
  rcases turn i n σ3 H3 w3 with ⟨stop, qn⟩ | ⟨go, N, hN, step⟩
  · refine wpAny_passesOwn hp (thn (T.done X rfl rfl rfl hc i pins s3 σ3 H3 X.xe I3 (stat fr3) st3 stop) fun r s4 ⟨hr, I4⟩ => ?_)
    subst hr
    exact wpAny_execs_nil ⟨σ3, H3, I4, qn⟩
  · refine wpAny_passesOwn hp (thnT k3 (T.item X rfl rfl rfl hc i pins s3 σ3 H3 X.xe I3 (stat fr3) st3 go) fun r s4 k4 ⟨u, hr, h4⟩ => ?_)
    subst hr
    refine wpAny_passesOwn hp (thnT k4 h4 fun _ s5 k5 ⟨x, H5, I5, r5, y5, st5, fr5⟩ => ?_)
    have I5' := I5.pinned (stat fr5) (T.obj _ _ st5)
    refine wpAny_passesOwn hp (thnT k5 (hg.run _ s5 σ3 H5 x u _ I5' r5 (step x H5 y5)) fun _ s6 k6 ⟨σ6, H6, I6, q6⟩ => ?_)
    refine wpAny_passesOwn hp (thnT k6 (hb _ s6 σ6 H6 _ k6 I6 q6) fun f s7 k7 q7 => ?_)
    have again : ∀ {σ7 : L2.St} {H7 : Hp}, Inv X (pins ++ pinsAt fp s5.heap) σ7 H7 s7 → N σ7 H7 → ∃ m, m < n ∧ 1 ≤ s7.toks ∧ ∃ i σ' H', Inv X pins σ' H' s7 ∧ tn i s7.heap ∧ (∀ b ∈ fp, H' b = none) ∧ W i m σ' H' := fun {σ7 H7} I7 n7 => by
      obtain ⟨m', hm, w7⟩ := hN σ7 H7 n7
      refine ⟨m', hm, k7, i + 1, σ7, H7, I7.unpinned, T.keep _ _ _ st5 fun b hb o e => (I7.pin (b, o) (List.mem_append_right _ (List.mem_append_right _ (mem_pinsAt hb e)))).1, fun b hb => ?_, w7⟩
      obtain ⟨o, e, d⟩ := T.obj _ _ st5 b hb
      exact (I7.pin (b, o) (List.mem_append_right _ (List.mem_append_right _ (mem_pinsAt hb e)))).2.1
    cases f with
    | next => obtain ⟨σ7, H7, I7, n7⟩ := q7; exact again I7 n7
    | cont => obtain ⟨σ7, H7, I7, n7⟩ := q7; exact again I7 n7
    | brk => obtain ⟨σ7, H7, I7, q7⟩ := q7; exact ⟨σ7, H7, I7.unpinned, q7⟩
    | ret v => obtain ⟨x7, σ7, H7, I7, r7, q7⟩ := q7; exact ⟨x7, σ7, H7, I7.unpinned, r7, q7⟩
/-- for over a range: behind it a token is out -/
theorem ps_forT {tg iter : Expr} {body : List Stmt} {wi : TI} {g : TG} {tb : TS} (hp : PassesOwn (model X.prog X.w) X.A X.env X.xe) (hc : X.calm = true) (hi : PI1 X tg iter wi) (hg : PG X tg g) (hb : PSsT X body tb)
    (hs : ∀ x, foldedSetIterable iter X.env x = pure x := by intro _; rfl) : PS X (.For tg iter body [] pos) (tFor wi g tb) :=
  ⟨fun pins s σ H D I h => for_T hp hc hg hb (wi := wi) (hi pins s σ H _ I h) hs⟩
theorem pst_forT {tg iter : Expr} {body : List Stmt} {wi : TI} {g : TG} {tb : TS} (hp : PassesOwn (model X.prog X.w) X.A X.env X.xe) (hc : X.calm = true) (hi : PI X tg iter wi) (hg : PG X tg g) (hb : PSsT X body tb)
    (hs : ∀ x, foldedSetIterable iter X.env x = pure x := by intro _; rfl) : PST X (.For tg iter body [] pos) (tFor wi g tb) :=
  fun pins s σ H D h0 I h => for_T hp hc hg hb (wi := wi) (thnT h0 (hi.run pins s σ H _ I h) fun v s1 k1 q => ⟨k1, q⟩) hs
theorem psst_nil : PSsT X [] tNext := PSsT.of pss_nil
theorem psst_one {st : Stmt} {t : TS} (h : PST X st t) : PSsT X [st] t := by
  intro pins s σ H D h0 I h'
  refine wpAny_execs_cons (thn (h pins s σ H D h0 I h') fun f s1 q => ?_)
  cases f with
  | next => exact wpAny_execs_nil q
  | ret v => exact q
  | brk => exact q
  | cont => exact q
end
end G1
/-! draws from a list of two lists and a count, the list of cells named -/
namespace G1
open PySem PySem.Spec PyProof.Rows L2
def WellC (w g c : Addr) (H : Hp) : Prop := ∃ (gs cs : List Int) (k : Int), w ≠ g ∧ c ≠ g ∧ c ≠ w ∧ H w = some (.lst [.ref g, .ref c, .int k]) ∧
  H g = some (.lst (gs.map V.int)) ∧ H c = some (.lst (cs.map V.int)) ∧ 0 < cs.length ∧ gs.length ≤ 1000 ∧ cs.length ≤ 1000
section
variable {w g c p : Addr} {H H' : Hp} {o : HO}
theorem WellC.same (D : WellC w g c H) (s : Same H H') : WellC w g c H' := by
  obtain ⟨gs, cs, k, h1, h2, h3, h4, h5, h6, h7⟩ := D
  exact ⟨gs, cs, k, h1, h2, h3, s _ _ h4, s _ _ h5, s _ _ h6, h7⟩
theorem WellC.fresh (D : WellC w g c H) (h : H p = none) : p ≠ w ∧ p ≠ g ∧ p ≠ c := by
  obtain ⟨gs, cs, k, h1, h2, h3, h4, h5, h6, h7⟩ := D
  exact ⟨(ne_of_none h4 h).symm, (ne_of_none h5 h).symm, (ne_of_none h6 h).symm⟩
theorem new_ofW (D : WellC w g c H) (hp : H p = none) (e : L2.upd H p o = H') : Same H H' ∧ WellC w g c H' ∧ Ac w g c H' p o := by
  subst e
  exact ⟨same_new hp, D.same (same_new hp), (D.fresh hp).1, (D.fresh hp).2.1, (D.fresh hp).2.2, upd_same⟩
theorem WellC.tup {a : Addr} {xs : List V} (D : WellC w g c H) (h : H a = some (.tup xs)) : Ac w g c H a (.tup xs) := by
  obtain ⟨gs, cs, k, h1, h2, h3, h4, h5, h6, h7⟩ := D
  exact ⟨ne_of h h4 (by intro z; cases z), ne_of h h5 (by intro z; cases z), ne_of h h6 (by intro z; cases z), h⟩
theorem WellC.upd {u : HO} (D : WellC w g c H) (n1 : p ≠ w) (n2 : p ≠ g) (n3 : p ≠ c) : WellC w g c (L2.upd H p u) := by
  obtain ⟨gs, cs, k, h1, h2, h3, h4, h5, h6, h7⟩ := D
  exact ⟨gs, cs, k, h1, h2, h3, (upd_ne n1.symm).trans h4, (upd_ne n2.symm).trans h5, (upd_ne n3.symm).trans h6, h7⟩
theorem dok_w : Dok (WellC w g c) w g c := ⟨fun D s => D.same s, fun D h => D.fresh h, fun D h => ⟨(D.tup h).nw, (D.tup h).ng, (D.tup h).nc⟩, fun D h1 h2 h3 => D.upd h1 h2 h3⟩
end
end G1
/-! numbers up to 10 ** 40; dicts of two -/
namespace G1
open PySem PySem.Spec PyProof.Rows L2
theorem log_of4 {i : Int} {B : Nat} (h : i.natAbs ≤ B) (hB : B < 10 ^ 40) : i.natAbs.log2 < 1920 := by
  by_cases z : i.natAbs = 0
  · rw [z]; decide
  · exact (Nat.log2_lt z).mpr (Nat.lt_of_le_of_lt h (Nat.lt_trans hB (by decide)))
mutual
theorem Ok.shows4 {B : Nat} (hB : B < 10 ^ 40) : ∀ {d : PyData}, Ok B d → d.showable = true ∧ d.leavesShort 42 = true
  | .none, _ => ⟨rfl, rfl⟩
  | .bool _, _ => ⟨rfl, rfl⟩
  | .int i, a => by
    simp only [Ok] at a
    refine ⟨by simp only [PyData.showable]; exact decide_eq_true (log_of4 a hB), ?_⟩
    simp only [PyData.leavesShort]
    refine decide_eq_true ?_
    have := int_text_length_le10 (a := i) (k := 40) (by decide) (by omega)
    show (Str.ofString (toString i)).length ≤ 42
    rw [PySem.ofString_length]
    omega
  | .str x, a => by
    simp only [Ok] at a
    refine ⟨rfl, ?_⟩
    simp only [PyData.leavesShort, List.all_eq_true, decide_eq_true_eq]
    exact a
  | .list xs, a => by
    simp only [Ok] at a
    simp only [PyData.showable, PyData.leavesShort]
    exact OkAll.shows4 hB a
  | .tuple xs, a => by
    simp only [Ok] at a
    simp only [PyData.showable, PyData.leavesShort]
    exact OkAll.shows4 hB a
  | .dict kvs, a => by
    simp only [Ok] at a
    simp only [PyData.showable, PyData.leavesShort]
    exact OkKv.shows4 hB a
theorem OkAll.shows4 {B : Nat} (hB : B < 10 ^ 40) : ∀ {d : List PyData}, OkAll B d → PyData.showableAll d = true ∧ PyData.leavesShortAll 42 d = true
  | [], _ => ⟨rfl, rfl⟩
  | x :: xs, a => by
    simp only [OkAll] at a
    obtain ⟨h1, h2⟩ := Ok.shows4 hB a.1
    obtain ⟨h3, h4⟩ := OkAll.shows4 hB a.2
    simp only [PyData.showableAll, PyData.leavesShortAll, h1, h2, h3, h4, Bool.and_self, and_self]
theorem OkKv.shows4 {B : Nat} (hB : B < 10 ^ 40) : ∀ {d : List (PyData × PyData)}, OkKv B d → PyData.showableKv d = true ∧ PyData.leavesShortKv 42 d = true
  | [], _ => ⟨rfl, rfl⟩
  | (k, v) :: r, a => by
    simp only [OkKv] at a
    obtain ⟨h1, h2⟩ := Ok.shows4 hB a.1
    obtain ⟨h3, h4⟩ := Ok.shows4 hB a.2.1
    obtain ⟨h5, h6⟩ := OkKv.shows4 hB a.2.2
    simp only [PyData.showableKv, PyData.leavesShortKv, h1, h2, h3, h4, h5, h6, Bool.and_self, and_self]
end
/-- repr of a value that is not too great -/
theorem repr_val4 {K : PySem.W.Frag} {H : Hp} {R : PyData → Prop} {v : V} {d : PyData} {B : Nat} (hd : DpD K H v d) (ok : Ok B d) (hB : B < 10 ^ 40) (hw : d.weight ≤ 360000) (hdp : d.depth ≤ 60) (q : R d) :
    ∃ (v' : V) (d' : PyData), [v] = [v'] ∧ DpD K H v' d' ∧ d'.showable = true ∧ d'.depth ≤ 60 ∧ d'.shown.length ≤ sizeLine ∧ R d' := by
  obtain ⟨h1, h2⟩ := ok.shows4 hB
  have s := PyData.shown_le 42 (by decide) d h2
  exact ⟨v, d, rfl, hd, h1, hdp, Nat.le_trans s (Nat.le_trans (by omega : _ ≤ 44 * 360000 + 42) (by decide)), q⟩
theorem bd_int4 {B : Nat} {i : Int} (h : i.natAbs ≤ B) (hB : B < 10 ^ 40) : Bd B 140 0 (.int i) := ⟨by simp only [Ok]; exact h, log_wt (Nat.lt_of_le_of_lt h (Nat.lt_trans hB (by decide))), by simp [PyData.depth]⟩
theorem Bt.int4 {B : Nat} {w g : Addr} {H : Hp} {i : Int} (h : i.natAbs ≤ B) (hB : B < 10 ^ 40) : Bt B 140 0 w g H (.int i) := ⟨_, .int i, bd_int4 h hB⟩
section
variable {D : Hp → Prop} {B W Dp W' : Nat} {w g c p : Addr} {H0 : Hp} {es : List En} {v u : V}
/-- a dict with two entries, displayed -/
theorem Lz.dict2 {W1 W2 : Nat} {H1 H2 H3 : Hp} {k k' : Key} (z : Lz D B w g c H0 H1 es) (np : H1 p = none) (hU : upd H1 p (.dK []) = H2) (hV : upd H2 p (.dK [(k, v), (k', u)]) = H3) (bk : Bd B W1 0 (kD k)) (bk' : Bd B W2 0 (kD k')) (b : Bt B W Dp w g H1 v) (b' : Bt B W' Dp w g H1 u) :
    Lz D B w g c H0 H3 (.th (.ref p) (W1 + W + 2 + (W2 + W' + 2)) (Dp + 1) :: es) := by
  subst hU
  rw [upd_twice] at hV
  obtain ⟨s, y', a⟩ := z.new np hV
  obtain ⟨d, t, bd⟩ := b.go z.tups (Go.of s)
  obtain ⟨d', t', bd'⟩ := b'.go z.tups (Go.of s)
  refine y'.addT ⟨.dict [(kD k, d), (kD k', d')], .dct a.nw a.ng a.at_ (.cons t (.cons t' .nil)), ?_, ?_, ?_⟩
  · simp only [Ok, OkKv]
    exact ⟨bk.ok, bd.ok, bk'.ok, bd'.ok, trivial⟩
  · have h1 := bk.wt
    have h2 := bd.wt
    have h3 := bk'.wt
    have h4 := bd'.wt
    simp only [PyData.weight, PyData.weightKv]
    omega
  · have h1 := bk.dp
    have h2 := bd.dp
    have h3 := bk'.dp
    have h4 := bd'.dp
    simp only [PyData.depth, PyData.depthKv]
    omega
end
end G1
/-! list(text) -/
namespace G1
open PySem PySem.Spec PyProof.Rows L2
def chs (z : Str) : List V := z.cps.toList.map fun c => V.str (C [c])
section
variable {X : Cx}
theorem call_listS (hc : X.calm = true) : CallR X (.type "list") (fun xs H Q => ∃ z, xs = [.str z] ∧ z.length ≤ sizeLine ∧ ∀ q, H q = none → Q (.ref q) (upd H q (.lst (chs z)))) := by
  intro pins s σ H xs us Q I r h
  obtain ⟨z, rfl, hz, q⟩ := h
  obtain ⟨u, rfl, ru⟩ := vals1 r
  obtain ⟨t, rfl⟩ := ru
  refine PySem.call_list_str (hn := hz) (I.ok.hd hc) z t fun h' tk acc c' hk e hi => ?_
  have hl : acc.toList.length = (chs z).length := by rw [chs, List.length_map, Array.length_toList, Array.length_toList]; exact hi.1
  refine ⟨.ref s.heap.objs.size, upd H s.heap.objs.size (.lst (chs z)), I.laid hk (Nat.le_refl _) ⟨by rw [chs, List.length_map, Array.length_toList]; exact hz, acc.toList, c', ?_, by rw [Array.toArray_toList]; exact e⟩, rfl, q _ (I.hok.fresh (Nat.le_refl _))⟩
  refine vals_of_idx _ _ hl fun j u hj => ?_
  obtain ⟨c, t', hc, rfl⟩ := hi.2 j u (by rw [← Array.getElem?_toList]; exact hj)
  refine ⟨.str (C [c]), ?_, ⟨t', rfl⟩⟩
  rw [chs, List.getElem?_map, Array.getElem?_toList, hc]
  rfl
end
theorem chs_C (l : List Nat) : chs (C l) = l.map fun c => V.str (C [c]) := rfl
theorem chs_bt {B : Nat} {w g : Addr} {H : Hp} : ∀ {l : List Nat}, (∀ k ∈ l, k < 16 ^ 8) → BtL B (l.length * 2) 0 w g H (l.map fun c => V.str (C [c]))
  | [], _ => BtL.nil
  | c :: l, h => (BtL.cons (Bt.code (l := [c]) (Nat.le_refl 1) (fun k hk => h k (by rw [List.mem_singleton.mp hk]; exact List.Mem.head _))) (chs_bt (l := l) fun k hk => h k (List.Mem.tail _ hk))).mono (Nat.le_refl _) (by rw [List.length_cons]; omega) (by decide)
end G1
namespace G01
open PySem PySem.Spec PyProof.Rows L2 G1
local macro_rules | `(tactic| walk_at "side") => `(tactic| first
  | assumption
  | omega
  | (constructor <;> omega)
  | rfl
  | decide
  | (dsimp only; decide)
  | (refine szl ?_; simp only [List.length_cons, List.length_nil]; omega)
  | (unfold CMul; omega)
  | (unfold CDiv; omega)
  | (unfold CPow; omega)
  | (unfold CMul; simp; done)
  | (unfold CMul; simp; omega)
  | (simp only [List.length_map, List.length_append, List.length_take, List.length_drop, rep_length, List.length_cons, List.length_nil, Nat.zero_add, Nat.mul_one]; omega))
local macro_rules | `(tactic| walk_at "go1") => `(tactic| first
  | (apply go_bit; (focus walk_at "side"); rw [B_str _ (by walk_at "side") (by walk_at "side")])
  | (apply go_lenS; (focus walk_at "side"); simp only [B_len])
  | (apply go_addS; (focus walk_at "side"); rw [B_app])
  | (apply go_mulS; (focus walk_at "side"); (focus walk_at "side"); rw [B_mul _ (by walk_at "side")])
  | (apply go_sl; (focus walk_at "side"); first | rw [B_last] | rw [B_init] | rw [B_to _ (by walk_at "side")] | rw [B_from _ (by walk_at "side")] | rw [B_mid _ (by walk_at "side") (by walk_at "side")])
  | (apply goC_sl; (focus walk_at "side"); first | rw [C_to _ (by walk_at "side")] | rw [C_from _ (by walk_at "side")] | rw [C_mid _ (by walk_at "side") (by walk_at "side")])
  | (apply goC_mulS; (focus walk_at "side"); (focus walk_at "side"); rw [C_mul _ (by walk_at "side")])
  | refine ⟨_, rfl, ?_⟩
  | refine ⟨_, _, rfl, rfl, ?_⟩
  | refine ⟨_, _, _, rfl, rfl, ?_⟩
  | refine ⟨_, _, rfl, ?_⟩
  | refine ⟨_, _, _, rfl, ?_⟩
  | (apply go_tup; assumption)
  | (apply go_unl; assumption)
  | (apply go_ixL; assumption; (first | rfl | assumption))
  | (apply go_ixT; assumption; (first | rfl | assumption))
  | (apply go_lenL; assumption)
  | (apply go_lenT; assumption)
  | refine Or.inl ⟨_, rfl, ?_⟩
  | (refine And.intro ?ll ?_; (case ll => walk_at "side")))
local macro_rules | `(tactic| walk_at "go") => `(tactic| repeat (walk_at "go1"))
def topS (i : Nat) : Stmt := PySem.Challenge.pw_leastmakers_k01_what_is_a_table.main.body.getD i (.Pass ⟨0, 0, 0, 0⟩)
abbrev s_is_pair : Stmt := topS 3
abbrev nm_is_pair : List Str := ["value"]
theorem sc_is_pair : FnScope nm_is_pair ["value"] (defScope s_is_pair) := ⟨rfl, rfl, rfl, by decide +kernel, rfl, by decide +kernel, by decide +kernel⟩
abbrev s_table_error : Stmt := topS 5
abbrev nm_table_error : List Str := ["value", "head", "turn"]
theorem sc_table_error : FnScope nm_table_error ["value"] (defScope s_table_error) := ⟨rfl, rfl, rfl, by decide +kernel, rfl, by decide +kernel, by decide +kernel⟩
abbrev s_is_row : Stmt := topS 6
abbrev nm_is_row : List Str := ["value"]
theorem sc_is_row : FnScope nm_is_row ["value"] (defScope s_is_row) := ⟨rfl, rfl, rfl, by decide +kernel, rfl, by decide +kernel, by decide +kernel⟩
abbrev s_well : Stmt := topS 8
abbrev nm_well : List Str := ["_law_script", "_law_great", "_law_cells", "_law_cell"]
theorem sc_well : FnScope nm_well ["_law_script"] (defScope s_well) := ⟨rfl, rfl, rfl, by decide +kernel, rfl, by decide +kernel, by decide +kernel⟩
abbrev s_draw : Stmt := topS 9
abbrev nm_draw : List Str := ["_law_well_here", "_law_size", "_law_rest", "_law_count", "_law_mixed"]
theorem sc_draw : FnScope nm_draw ["_law_well_here", "_law_size"] (defScope s_draw) := ⟨rfl, rfl, rfl, by decide +kernel, rfl, by decide +kernel, by decide +kernel⟩
abbrev s_pick : Stmt := topS 10
abbrev nm_pick : List Str := ["_law_well_here", "_law_items"]
theorem sc_pick : FnScope nm_pick ["_law_well_here", "_law_items"] (defScope s_pick) := ⟨rfl, rfl, rfl, by decide +kernel, rfl, by decide +kernel, by decide +kernel⟩
abbrev s_length : Stmt := topS 11
abbrev nm_length : List Str := ["_law_well_here", "_law_is_great", "_law_menu"]
theorem sc_length : FnScope nm_length ["_law_well_here", "_law_is_great"] (defScope s_length) := ⟨rfl, rfl, rfl, by decide +kernel, rfl, by decide +kernel, by decide +kernel⟩
abbrev s_word : Stmt := topS 12
abbrev nm_word : List Str := ["_law_well_here", "_law_size", "_law_mixed", "_law_short", "_law_k"]
theorem sc_word : FnScope nm_word ["_law_well_here", "_law_size"] (defScope s_word) := ⟨rfl, rfl, rfl, by decide +kernel, rfl, by decide +kernel, by decide +kernel⟩
abbrev s_is_word : Stmt := topS 13
abbrev nm_is_word : List Str := ["_law_thing"]
theorem sc_is_word : FnScope nm_is_word ["_law_thing"] (defScope s_is_word) := ⟨rfl, rfl, rfl, by decide +kernel, rfl, by decide +kernel, by decide +kernel⟩
abbrev s_error : Stmt := topS 14
abbrev nm_error : List Str := ["_law_thing"]
theorem sc_error : FnScope nm_error ["_law_thing"] (defScope s_error) := ⟨rfl, rfl, rfl, by decide +kernel, rfl, by decide +kernel, by decide +kernel⟩
abbrev s_sign : Stmt := topS 15
abbrev nm_sign : List Str := ["_law_well_here", "_law_menu"]
theorem sc_sign : FnScope nm_sign ["_law_well_here"] (defScope s_sign) := ⟨rfl, rfl, rfl, by decide +kernel, rfl, by decide +kernel, by decide +kernel⟩
abbrev s_marred : Stmt := topS 16
abbrev nm_marred : List Str := ["_law_well_here", "_law_word_here", "_law_at"]
theorem sc_marred : FnScope nm_marred ["_law_well_here", "_law_word_here"] (defScope s_marred) := ⟨rfl, rfl, rfl, by decide +kernel, rfl, by decide +kernel, by decide +kernel⟩
abbrev s_odd : Stmt := topS 17
abbrev nm_odd : List Str := ["_law_well_here", "_law_menu", "_law_found", "_law_turn", "_law_deeper"]
theorem sc_odd : FnScope nm_odd ["_law_well_here"] (defScope s_odd) := ⟨rfl, rfl, rfl, by decide +kernel, rfl, by decide +kernel, by decide +kernel⟩
abbrev s_bent : Stmt := topS 18
abbrev nm_bent : List Str := ["_law_well_here", "_law_pair", "_law_head", "_law_turn", "_law_kind", "_law_near"]
theorem sc_bent : FnScope nm_bent ["_law_well_here", "_law_pair"] (defScope s_bent) := ⟨rfl, rfl, rfl, by decide +kernel, rfl, by decide +kernel, by decide +kernel⟩
abbrev s_law : Stmt := topS 19
abbrev nm_law : List Str := ["_law_script", "_law_well_here", "_law_turn", "_law_pair", "_law_plain", "_law_things", "_law_held", "_law_thing", "_law_due", "_law_edges", "_law_told"]
theorem sc_law : FnScope nm_law ["_law_script"] (defScope s_law) := ⟨rfl, rfl, rfl, by decide +kernel, rfl, by decide +kernel, by decide +kernel⟩
structure Tp (K : PySem.W.Frag) (mg : Str → Option Value) where
  a_is_pair : Addr
  d_is_pair : FuncData
  F_is_pair : Fun K "is_pair" "is_pair" s_is_pair a_is_pair d_is_pair
  g_is_pair : mg "is_pair" = some (.ref a_is_pair)
  a_table_error : Addr
  d_table_error : FuncData
  F_table_error : Fun K "table_error" "table_error" s_table_error a_table_error d_table_error
  g_table_error : mg "table_error" = some (.ref a_table_error)
  a_is_row : Addr
  d_is_row : FuncData
  F_is_row : Fun K "_is_row" "_is_row" s_is_row a_is_row d_is_row
  g_is_row : mg "_is_row" = some (.ref a_is_row)
  a_well : Addr
  d_well : FuncData
  F_well : Fun K "_law_well" "_law_well" s_well a_well d_well
  g_well : mg "_law_well" = some (.ref a_well)
  a_draw : Addr
  d_draw : FuncData
  F_draw : Fun K "_law_draw" "_law_draw" s_draw a_draw d_draw
  g_draw : mg "_law_draw" = some (.ref a_draw)
  a_pick : Addr
  d_pick : FuncData
  F_pick : Fun K "_law_pick" "_law_pick" s_pick a_pick d_pick
  g_pick : mg "_law_pick" = some (.ref a_pick)
  a_length : Addr
  d_length : FuncData
  F_length : Fun K "_law_length" "_law_length" s_length a_length d_length
  g_length : mg "_law_length" = some (.ref a_length)
  a_word : Addr
  d_word : FuncData
  F_word : Fun K "_law_word" "_law_word" s_word a_word d_word
  g_word : mg "_law_word" = some (.ref a_word)
  a_is_word : Addr
  d_is_word : FuncData
  F_is_word : Fun K "_law_is_word" "_law_is_word" s_is_word a_is_word d_is_word
  g_is_word : mg "_law_is_word" = some (.ref a_is_word)
  a_error : Addr
  d_error : FuncData
  F_error : Fun K "_law_error" "_law_error" s_error a_error d_error
  g_error : mg "_law_error" = some (.ref a_error)
  a_sign : Addr
  d_sign : FuncData
  F_sign : Fun K "_law_sign" "_law_sign" s_sign a_sign d_sign
  g_sign : mg "_law_sign" = some (.ref a_sign)
  a_marred : Addr
  d_marred : FuncData
  F_marred : Fun K "_law_marred" "_law_marred" s_marred a_marred d_marred
  g_marred : mg "_law_marred" = some (.ref a_marred)
  a_odd : Addr
  d_odd : FuncData
  F_odd : Fun K "_law_odd" "_law_odd" s_odd a_odd d_odd
  g_odd : mg "_law_odd" = some (.ref a_odd)
  a_bent : Addr
  d_bent : FuncData
  F_bent : Fun K "_law_bent" "_law_bent" s_bent a_bent d_bent
  g_bent : mg "_law_bent" = some (.ref a_bent)
  a_law : Addr
  d_law : FuncData
  F_law : Fun K "law" "law" s_law a_law d_law
  g_law : mg "law" = some (.ref a_law)
  n_abs : mg "abs" = none
  n_int : mg "int" = none
  n_isinstance : mg "isinstance" = none
  n_len : mg "len" = none
  n_list : mg "list" = none
  n_max : mg "max" = none
  n_range : mg "range" = none
  n_repr : mg "repr" = none
  n_str : mg "str" = none
  n_sum : mg "sum" = none
  n_tuple : mg "tuple" = none
  k_MAX_HEAD : Tok
  m_MAX_HEAD : mg "MAX_HEAD" = some (.int 5000 k_MAX_HEAD)
  k_MAX_TURN : Tok
  m_MAX_TURN : mg "MAX_TURN" = some (.int 5000 k_MAX_TURN)
section
variable {K : PySem.W.Frag} {mg : Str → Option Value} (T : Tp K mg)
theorem b_is_pair : Binds K T.d_is_pair ["value"] [] := T.F_is_pair.binds (ps := ["value"]) fun _ _ _ _ _ _ us hl => match us, hl with | [_], _ => rfl
theorem b_table_error : Binds K T.d_table_error ["value"] [] := T.F_table_error.binds (ps := ["value"]) fun _ _ _ _ _ _ us hl => match us, hl with | [_], _ => rfl
theorem b_is_row : Binds K T.d_is_row ["value"] [] := T.F_is_row.binds (ps := ["value"]) fun _ _ _ _ _ _ us hl => match us, hl with | [_], _ => rfl
theorem b_well : Binds K T.d_well ["_law_script"] [] := T.F_well.binds (ps := ["_law_script"]) fun _ _ _ _ _ _ us hl => match us, hl with | [_], _ => rfl
theorem b_draw : Binds K T.d_draw ["_law_well_here", "_law_size"] [] := T.F_draw.binds (ps := ["_law_well_here", "_law_size"]) fun _ _ _ _ _ _ us hl => match us, hl with | [_, _], _ => rfl
theorem b_pick : Binds K T.d_pick ["_law_well_here", "_law_items"] [] := T.F_pick.binds (ps := ["_law_well_here", "_law_items"]) fun _ _ _ _ _ _ us hl => match us, hl with | [_, _], _ => rfl
theorem b_length : Binds K T.d_length ["_law_well_here", "_law_is_great"] [] := T.F_length.binds (ps := ["_law_well_here", "_law_is_great"]) fun _ _ _ _ _ _ us hl => match us, hl with | [_, _], _ => rfl
theorem b_word : Binds K T.d_word ["_law_well_here", "_law_size"] [] := T.F_word.binds (ps := ["_law_well_here", "_law_size"]) fun _ _ _ _ _ _ us hl => match us, hl with | [_, _], _ => rfl
theorem b_is_word : Binds K T.d_is_word ["_law_thing"] [] := T.F_is_word.binds (ps := ["_law_thing"]) fun _ _ _ _ _ _ us hl => match us, hl with | [_], _ => rfl
theorem b_error : Binds K T.d_error ["_law_thing"] [] := T.F_error.binds (ps := ["_law_thing"]) fun _ _ _ _ _ _ us hl => match us, hl with | [_], _ => rfl
theorem b_sign : Binds K T.d_sign ["_law_well_here"] [] := T.F_sign.binds (ps := ["_law_well_here"]) fun _ _ _ _ _ _ us hl => match us, hl with | [_], _ => rfl
theorem b_marred : Binds K T.d_marred ["_law_well_here", "_law_word_here"] [] := T.F_marred.binds (ps := ["_law_well_here", "_law_word_here"]) fun _ _ _ _ _ _ us hl => match us, hl with | [_, _], _ => rfl
theorem b_odd : Binds K T.d_odd ["_law_well_here"] [] := T.F_odd.binds (ps := ["_law_well_here"]) fun _ _ _ _ _ _ us hl => match us, hl with | [_], _ => rfl
theorem b_bent : Binds K T.d_bent ["_law_well_here", "_law_pair"] [] := T.F_bent.binds (ps := ["_law_well_here", "_law_pair"]) fun _ _ _ _ _ _ us hl => match us, hl with | [_, _], _ => rfl
theorem b_law : Binds K T.d_law ["_law_script"] [] := T.F_law.binds (ps := ["_law_script"]) fun _ _ _ _ _ _ us hl => match us, hl with | [_], _ => rfl
end
set_option pp.deepTerms false
set_option pp.deepTerms.threshold 5
section
variable {P : Program} {wd : World} {K : PySem.W.Frag} {mg : Str → Option Value} {base : Heap} (T : Tp K mg)
theorem mem_ints {x : V} {ns : List Int} {xs : List V} (e : xs = ns.map V.int) (h : x ∈ xs) : ∃ i ∈ ns, x = .int i := by
  subst e
  obtain ⟨i, h1, h2⟩ := List.mem_map.mp h
  exact ⟨i, h1, h2.symm⟩
abbrev Dk (w g c : Addr) (H : Hp) : Prop := WellC w g c H
/-! ### the well -/
theorem sum_of (ns : List Int) : (ns.map V.int) = ns.map V.int := rfl
def spWell (K : PySem.W.Frag) : Sp := fun vs H Q _ => ∃ (a : Addr) (ns : List Int), vs = [.ref a] ∧ SqL K H a (ns.map V.int) ∧ ns.length ≤ 63 ∧
  ∀ w g c H', Same H H' → Dk w g c H' → Q (.ref w) H'
theorem cut63 {xs : List V} {n : Nat} (h : xs.length ≤ n) : cutV xs none (some (n : Int)) = xs := by
  unfold cutV
  rw [sIx_of _ _ (by omega)]
  show (xs.drop 0).take (min (n : Int).toNat xs.length - 0) = xs
  rw [List.drop_zero, Nat.sub_zero, Int.toNat_natCast, Nat.min_eq_right h, List.take_length]
theorem ok_well : FnOk P wd K mg base CX0 1 T.a_well T.d_well ["_law_script"] (spWell K) := by
  refine T.F_well.ok sc_well (fun vs H Q E h => ?_) (fun cdv A outer s H vs Q E hr h => ?_)
  · obtain ⟨a, ns, rfl, _⟩ := h
    rfl
  · obtain ⟨a, ns, rfl, hS, hl, q⟩ := h
    refine ⟨_, (pss_cons (ps_setLc (i := 1) (own := [("_law_cell", 3)]) rfl sc_well.nd rfl rfl (sw_true rfl rfl rfl (by decide +kernel)) (pi_list (pe_slice (sl_listK (K := K) rfl) (pv 0) po_none (po_some pe_int))) (blkOk_by (N := nm_well) (sc := defScope s_well) (by decide +kernel)) (fun _ _ _ _ _ => pg_name (i := 3) sc_well.nd rfl (Or.inl rfl)) (fun _ _ _ _ _ => pts_one (pt_cmpR op_ge (pe_callB call_abs rfl T.n_abs (by decide +kernel) (pa_cons (pv 3) pa_nil)) (pe_op op_pow pe_int pe_int) (nomark _))) (fun _ _ _ _ _ => (pe_callB call_abs rfl T.n_abs (by decide +kernel) (pa_cons (pv 3) pa_nil))))
      (pss_cons (ps_setLc (i := 2) (own := [("_law_cell", 3)]) rfl sc_well.nd rfl rfl (sw_true rfl rfl rfl (by decide +kernel)) (pi_list (pe_slice (sl_listK (K := K) rfl) (pv 0) po_none (po_some pe_int))) (blkOk_by (N := nm_well) (sc := defScope s_well) (by decide +kernel)) (fun _ _ _ _ _ => pg_name (i := 3) sc_well.nd rfl (Or.inl rfl)) (fun _ _ _ _ _ => pts_nil) (fun _ _ _ _ _ => (pe_ifExp (pt_cmpR op_gt (pv 3) pe_int (nomark _)) (pe_op op_mul pe_int (pv 3)) (pe_op op_sub pe_int (pe_op op_mul pe_int (pv 3))))))
      (pss_one (ps_ret (pe_lst (pa_cons (pv 1) (pa_cons (pe_op op_cat (pv 2) (pe_lst (pa_cons (pe_op op_add (pe_op op_add (pe_callB (cr_sum rfl) rfl T.n_sum (by decide +kernel) (pa_cons (pv 2) pa_nil)) (pe_op op_mul pe_int (pe_callB call_len_seq rfl T.n_len PySem.boot_len (pa_cons (pv 2) pa_nil)))) pe_int) pa_nil))) (pa_cons pe_int pa_nil)))))))), ?_⟩
    walk_at "go"
    refine ⟨a, ns.map V.int, rfl, hS, ?_⟩
    rw [show (63 : Int) = ((63 : Nat) : Int) from rfl, cut63 (by rw [List.length_map]; exact hl)]
    intro c nc
    generalize hU : upd H c _ = H1
    obtain ⟨s1, hc⟩ := new_of0 nc hU
    refine ⟨c, rfl, ⟨_, sqL_of hc⟩, fun D nD => ?_⟩
    have mc : D ≠ c := (ne_of_none hc nD).symm
    refine lc_list (xs := ns.map V.int) (fun i H2 => ∃ gs : List Int, H2 D = some (.lst (gs.map V.int)) ∧ gs.length ≤ i ∧ Same H1 H2) ⟨[], upd_same, Nat.zero_le _, same_new nD⟩
      (fun i H2 _ p => sqL_of (p.choose_spec.2.2 _ _ hc)) (fun i x H2 hx p => ?_) (fun H2 p => ?_)
    · obtain ⟨gs, hD, hg, S⟩ := p
      obtain ⟨z, rfl⟩ : ∃ z, x = V.int z := by
        rw [List.getElem?_map] at hx
        cases e : ns[i]? with
        | none => rw [e] at hx; cases hx
        | some z => rw [e] at hx; exact ⟨z, (Option.some.inj hx).symm⟩
      refine ⟨rfl, ?_⟩
      walk_at "go"
      refine ifD (fun big => ?_) (fun nb => ?_)
      · walk_at "go"
        have hil : i < (ns.map V.int).length := (List.getElem?_eq_some_iff.mp hx).1
        rw [List.length_map] at hil
        refine ⟨_, hD, small1000 (by rw [List.length_map]; omega), gs ++ [_], by rw [upd_same, List.map_append]; rfl, by rw [List.length_append]; simp; omega, same_mut S nD⟩
      · exact ⟨gs, hD, by omega, S⟩
    · obtain ⟨gs, hD, hg, S⟩ := p
      rw [List.length_map] at hg
      walk_at "go"
      have S0 : Same H H2 := s1.trans S
      refine ⟨a, ns.map V.int, rfl, S0.seq hS, ?_⟩
      rw [cut63 (by rw [List.length_map]; exact hl)]
      intro c2 nc2
      generalize hU2 : upd H2 c2 _ = H3
      obtain ⟨s3, hc2⟩ := new_of0 nc2 hU2
      refine ⟨c2, rfl, ⟨_, sqL_of hc2⟩, fun D2 nD2 => ?_⟩
      refine lc_list (xs := ns.map V.int) (fun i H2 => ∃ gs : List Int, H2 D2 = some (.lst (gs.map V.int)) ∧ gs.length = i ∧ Same H3 H2) ⟨[], upd_same, rfl, same_new nD2⟩
        (fun i H2 _ p => sqL_of (p.choose_spec.2.2 _ _ hc2)) (fun i x H2 hx p => ?_) (fun H4 p => ?_)
      · obtain ⟨cs, hD2, hg2, S2⟩ := p
        obtain ⟨z, rfl⟩ : ∃ z, x = V.int z := by
          rw [List.getElem?_map] at hx
          cases e : ns[i]? with
          | none => rw [e] at hx; cases hx
          | some z => rw [e] at hx; exact ⟨z, (Option.some.inj hx).symm⟩
        have hil : i < (ns.map V.int).length := (List.getElem?_eq_some_iff.mp hx).1
        rw [List.length_map] at hil
        refine ⟨rfl, ?_⟩
        walk_at "go"
        refine ifD (fun big => ?_) (fun nb => ?_)
        · walk_at "go"
          refine ⟨_, hD2, small1000 (by rw [List.length_map]; omega), cs ++ [_], by rw [upd_same, List.map_append]; rfl, by rw [List.length_append]; simp; omega, same_mut S2 nD2⟩
        · walk_at "go"
          refine ⟨_, hD2, small1000 (by rw [List.length_map]; omega), cs ++ [_], by rw [upd_same, List.map_append]; rfl, by rw [List.length_append]; simp; omega, same_mut S2 nD2⟩
      · obtain ⟨cs, hD2, hg2, S2⟩ := p
        rw [List.length_map] at hg2
        walk_at "go"
        refine ⟨D2, cs, rfl, sqL_of hD2, ?_⟩
        walk_at "go"
        intro e ne
        generalize hU3 : upd H4 e _ = H5
        obtain ⟨s5, he⟩ := new_of0 ne hU3
        have hD3 := s5 _ _ hD2
        refine ⟨D2, e, _, _, rfl, rfl, hD3, he, ?_, fun p np => ?_⟩
        · exact Nat.le_trans (by rw [List.length_map]; simp; omega) (show 1000 ≤ sizeLine by decide)
        generalize hU6 : upd H5 p _ = H6
        obtain ⟨s6, hp⟩ := new_of0 np hU6
        walk_at "go"
        intro w nw
        generalize hU7 : upd H6 w _ = H7
        obtain ⟨s7, hw⟩ := new_of0 nw hU7
        have hDg : H6 D = some (.lst (gs.map V.int)) := s6 _ _ (s5 _ _ (S2 _ _ (s3 _ _ hD)))
        have Sall : Same H H7 := fun b o z => s7 _ _ (s6 _ _ (s5 _ _ (S2 _ _ (s3 _ _ (S0 _ _ z)))))
        have hpc : ∃ cs2 : List Int, H7 p = some (.lst (cs2.map V.int)) ∧ cs2.length = cs.length + 1 :=
          ⟨cs ++ [_], by rw [List.map_append]; exact s7 _ _ hp, by rw [List.length_append]; rfl⟩
        obtain ⟨cs2, hp2, hl2⟩ := hpc
        refine q w D p H7 Sall ⟨gs, cs2, 0, (ne_of_none hDg nw).symm, ?_, ?_, hw, s7 _ _ hDg, hp2, by omega, by omega, by omega⟩
        · exact (ne_of_none (s5 _ _ (S2 _ _ (s3 _ _ hD))) np).symm
        · exact ne_of_none hp nw
/-- a draw: any number below the size -/
def spDraw : Sp := fun vs H Q _ => ∃ (w g c : Addr) (n : Int), vs = [.ref w, .int n] ∧ Dk w g c H ∧ 0 < n ∧ n < 1073741824 ∧
  ∀ (d : Int) H', Go w g H H' → Dk w g c H' → 0 ≤ d → d < n → Q (.int d) H'
theorem ok_draw : FnOk P wd K mg base CX0 1 T.a_draw T.d_draw ["_law_well_here", "_law_size"] spDraw := by
  refine T.F_draw.ok sc_draw (fun vs H Q E h => ?_) (fun cdv A outer s H vs Q E hr h => ?_)
  · obtain ⟨w, g, c, n, rfl, _⟩ := h
    rfl
  · have hu4 : (cxOf CX0 P wd K mg base nm_draw "_law_draw" (defScope s_draw) T.a_draw cdv A outer s H E).A.units + 64 < cLine := hr.units
    obtain ⟨w, g, c, n, rfl, W, n0, n1, q⟩ := h
    refine ⟨_, (pss_cons (ps_if (pt_cmpR (op_neD hu4) (pe_ix ix_list (pv 0) pe_int (fun _ _ => rfl)) (pe_lst pa_nil) (nomark _)) (pss_cons (ps_set (i := 2) sc_draw.nd rfl (Or.inl rfl) (pe_ix ix_list (pe_ix ix_list (pv 0) pe_int (fun _ _ => rfl)) pe_int (fun _ _ => rfl)))
      (pss_cons (ps_asg (pe_op op_fdiv (pv 2) (pv 1)) (pg_sub (pe_ix ix_list (pv 0) pe_int (fun _ _ => rfl)) pe_int set_list))
      (pss_cons (ps_if (pt_cmpR op_lt (pv 2) (pv 1) (nomark _)) (pss_one (ps_expr (pe_bm PySem.F.plainAttrs_list PySem.F.slot_list_pop PySem.F.type_list_pop mt_popAt (pe_ix ix_list (pv 0) pe_int (fun _ _ => rfl)) (pa_cons pe_int pa_nil)))) pss_nil)
      (pss_one (ps_ret (pe_op op_mod (pe_callTy call_int1 rfl T.n_int (by decide +kernel) (pa_cons (pv 2) pa_nil)) (pv 1))))))) pss_nil)
      (pss_cons (ps_asg (pe_op op_add (pe_ix ix_list (pv 0) pe_int (fun _ _ => rfl)) pe_int) (pg_sub (pv 0) pe_int set_list))
      (pss_cons (ps_set (i := 3) sc_draw.nd rfl (Or.inl rfl) (pe_callTy call_int1 rfl T.n_int (by decide +kernel) (pa_cons (pe_ix ix_list (pv 0) pe_int (fun _ _ => rfl)) pa_nil)))
      (pss_cons (ps_set (i := 4) sc_draw.nd rfl (Or.inl rfl) (pe_op op_mod (pe_callTy call_int1 rfl T.n_int (by decide +kernel) (pa_cons (pe_op op_add (pe_op op_add (pe_op op_mul (pe_ix ix_list (pe_ix ix_list (pv 0) pe_int (fun _ _ => rfl)) (pe_op op_mod (pv 3) (pe_callB call_len_seq rfl T.n_len PySem.boot_len (pa_cons (pe_ix ix_list (pv 0) pe_int (fun _ _ => rfl)) pa_nil))) (fun _ _ => rfl)) pe_int) (pe_op op_mul (pe_ix ix_list (pe_ix ix_list (pv 0) pe_int (fun _ _ => rfl)) (pe_un un_neg pe_int) (fun _ _ => rfl)) pe_int)) (pe_op op_mul (pv 3) pe_int)) pa_nil)) pe_int))
      (pss_cons (ps_set (i := 4) sc_draw.nd rfl (Or.inl rfl) (pe_op op_mod (pe_callTy call_int1 rfl T.n_int (by decide +kernel) (pa_cons (pe_op op_add (pe_op op_mul (pv 4) (pv 4)) (pe_op op_mul (pv 3) pe_int)) pa_nil)) pe_int))
      (pss_one (ps_ret (pe_op op_mod (pe_op op_fdiv (pe_op op_mod (pe_callTy call_int1 rfl T.n_int (by decide +kernel) (pa_cons (pe_op op_add (pe_op op_mul (pv 4) (pv 4)) (pe_op op_mul pe_int (pv 4))) pa_nil)) pe_int) pe_int) (pv 1))))))))), ?_⟩
    obtain ⟨gs, cs, k, e1, e2, e3, hw, hg, hc, h0, hgs, hcs⟩ := W
    walk_at "go"
    intro o no
    have nwo := ne_of_none hw no
    have ngo := ne_of_none hg no
    have nco := ne_of_none hc no
    have s1 : Same H (upd H o (.lst [])) := same_new no
    have ho : (upd H o (.lst [])) o = some (.lst []) := upd_same
    generalize upd H o (.lst []) = H1 at s1 ho
    replace hw := s1 _ _ hw
    replace hg := s1 _ _ hg
    replace hc := s1 _ _ hc
    refine ⟨.list (gs.map PyData.int), .list [], .lst (sqL_of hg) (dpAll_ints _), .lst (sqL_of ho) .nil, shaped_ints _, by rfl, _, rfl, ?_⟩
    rw [eqv_ints_nil]
    refine ifDn (fun hne => ?_) (fun he => ?_)
    · obtain ⟨r, gs', rfl⟩ : ∃ r gs', gs = r :: gs' := by
        cases gs with
        | nil => exact absurd rfl hne
        | cons r gs' => exact ⟨r, gs', rfl⟩
      rw [List.map_cons] at hg
      walk_at "go"
      refine ⟨_, _, _, 0, rfl, rfl, hg, ix_zero (by simp), ?_⟩
      -- if rest < size
      have hg2 : (upd H1 g (.lst ((V.int r :: gs'.map V.int).set 0 (V.int (r / n))))) g = some (.lst (((r / n) :: gs').map V.int)) := upd_same
      have hw2 : (upd H1 g (.lst ((V.int r :: gs'.map V.int).set 0 (V.int (r / n))))) w = _ := (upd_ne e1).trans hw
      have hc2 : (upd H1 g (.lst ((V.int r :: gs'.map V.int).set 0 (V.int (r / n))))) c = _ := (upd_ne e2).trans hc
      have s2 : Go w g H (upd H1 g (.lst ((V.int r :: gs'.map V.int).set 0 (V.int (r / n))))) := fun a x n1 n2 e => by
        rw [upd_ne n2]
        exact s1 _ _ e
      generalize upd H1 g (.lst ((V.int r :: gs'.map V.int).set 0 (V.int (r / n)))) = H2 at hg2 hw2 hc2 s2
      walk_at "go"
      refine ifD (fun lt => ?_) (fun nlt => ?_)
      · walk_at "go"
        refine ⟨Or.inl ⟨rfl, _, sqL_of hg2⟩, ?_⟩
        refine ⟨_, _, 0, 0, .int (r / n), rfl, rfl, hg2, by decide, by decide, by rw [List.length_map, List.length_cons]; exact seq_zero _, rfl, ?_⟩
        have hg3 : (upd H2 g (.lst ((((r / n) :: gs').map V.int).eraseIdx 0))) g = some (.lst (gs'.map V.int)) := upd_same
        have hw3 : (upd H2 g (.lst ((((r / n) :: gs').map V.int).eraseIdx 0))) w = _ := (upd_ne e1).trans hw2
        have hc3 : (upd H2 g (.lst ((((r / n) :: gs').map V.int).eraseIdx 0))) c = _ := (upd_ne e2).trans hc2
        have s3 : Go w g H (upd H2 g (.lst ((((r / n) :: gs').map V.int).eraseIdx 0))) := fun a x n1 n2 e => by
          rw [upd_ne n2]
          exact s2 _ _ n1 n2 e
        generalize upd H2 g (.lst ((((r / n) :: gs').map V.int).eraseIdx 0)) = H3 at hg3 hw3 hc3 s3
        walk_at "go"
        exact q _ _ s3 ⟨gs', cs, k, e1, e2, e3, hw3, hg3, hc3, h0, by rw [List.length_cons] at hgs; omega, hcs⟩ (Int.emod_nonneg _ (by omega)) (Int.emod_lt_of_pos _ n0)
      · walk_at "go"
        exact q _ _ s2 ⟨_, cs, k, e1, e2, e3, hw2, hg2, hc2, h0, by rw [List.length_cons] at hgs ⊢; omega, hcs⟩ (Int.emod_nonneg _ (by omega)) (Int.emod_lt_of_pos _ n0)
    · subst he
      walk_at "go"
      refine ⟨_, _, _, 2, rfl, rfl, hw, ix_at (j := 2) rfl (by simp), ?_⟩
      have hw2 : (upd H1 w (.lst ([V.ref g, V.ref c, V.int k].set 2 (V.int (k + 1))))) w = some (.lst [V.ref g, V.ref c, V.int (k + 1)]) := upd_same
      have hg2 : (upd H1 w (.lst ([V.ref g, V.ref c, V.int k].set 2 (V.int (k + 1))))) g = _ := (upd_ne e1.symm).trans hg
      have hc2 : (upd H1 w (.lst ([V.ref g, V.ref c, V.int k].set 2 (V.int (k + 1))))) c = _ := (upd_ne e3).trans hc
      have s2 : Go w g H (upd H1 w (.lst ([V.ref g, V.ref c, V.int k].set 2 (V.int (k + 1))))) := fun a x n1 n2 e => by
        rw [upd_ne n1]
        exact s1 _ _ e
      generalize upd H1 w (.lst ([V.ref g, V.ref c, V.int k].set 2 (V.int (k + 1)))) = H2 at hg2 hw2 hc2 s2
      have hm : ((k + 1) % (((cs.map V.int).length : Nat) : Int)).toNat < cs.length := by
        rw [List.length_map]
        have h1 := Int.emod_nonneg (k + 1) (show (cs.length : Int) ≠ 0 by omega)
        have h2 := Int.emod_lt_of_pos (k + 1) (show 0 < (cs.length : Int) by omega)
        omega
      obtain ⟨x, hx⟩ : ∃ x, cs[((k + 1) % (((cs.map V.int).length : Nat) : Int)).toNat]? = some x := ⟨_, List.getElem?_eq_getElem hm⟩
      obtain ⟨z, hz⟩ : ∃ z, cs[cs.length - 1]? = some z := ⟨_, List.getElem?_eq_getElem (by omega)⟩
      walk_at "go"
      refine go_ixLi (xs := cs.map V.int) (v := .int x) hc2 (j := ((k + 1) % (((cs.map V.int).length : Nat) : Int)).toNat) ?_ (by rw [List.getElem?_map, hx]; rfl) ?_
      · rw [Int.toNat_of_nonneg (Int.emod_nonneg _ (by rw [List.length_map]; omega))]
      walk_at "go"
      refine go_ixLast (v := .int z) hc2 (by rw [List.length_map, List.getElem?_map, hz]; rfl) ?_
      walk_at "go"
      exact q _ _ s2 ⟨[], cs, k + 1, e1, e2, e3, hw2, hg2, hc2, h0, hgs, hcs⟩ (Int.emod_nonneg _ (by omega)) (Int.emod_lt_of_pos _ n0)
/-- one of the items -/
def spPick : Sp := fun vs H Q _ => ∃ (w g c l : Addr) (xs : List V), vs = [.ref w, .ref l] ∧ Dk w g c H ∧ Ac w g c H l (.lst xs) ∧ 0 < xs.length ∧ xs.length < 1000000 ∧
  ∀ x H', x ∈ xs → Go w g H H' → Dk w g c H' → Q x H'
theorem ok_pick : FnOk P wd K mg base CX0 2 T.a_pick T.d_pick ["_law_well_here", "_law_items"] spPick := by
  have G_draw : FnOk P wd K mg base CX0 1 T.a_draw T.d_draw ["_law_well_here", "_law_size"] spDraw := ok_draw T
  refine T.F_pick.ok sc_pick (fun vs H Q E h => ?_) (fun cdv A outer s H vs Q E hr h => ?_)
  · obtain ⟨w, g, c, l, xs, rfl, _⟩ := h
    rfl
  · obtain ⟨w, g, c, l, xs, rfl, W, L, l0, l1, q⟩ := h
    refine ⟨_, (pss_one (ps_ret (pe_ix ix_list (pv 1) (pe_call G_draw hr rfl T.g_draw T.F_draw.kp (b_draw T) .nil pass0 (pa_cons (pv 0) (pa_cons (pe_callB call_len_seq rfl T.n_len PySem.boot_len (pa_cons (pv 1) pa_nil)) pa_nil))) (fun _ _ => rfl)))), ?_⟩
    have hl := L.at_
    walk_at "go"
    refine ⟨w, g, c, _, rfl, W, by omega, by omega, fun d H' s1 W1 d0 d1 => ?_⟩
    have hl1 := (L.go s1).at_
    obtain ⟨x, hx⟩ : ∃ x, xs[d.toNat]? = some x := ⟨_, List.getElem?_eq_getElem (by omega)⟩
    refine go_ixLi hl1 (j := d.toNat) (by omega) hx ?_
    exact q x H' (List.mem_of_getElem? hx) s1 W1
end
set_option pp.deepTerms false
set_option pp.deepTerms.threshold 5
section
variable {P : Program} {wd : World} {K : PySem.W.Frag} {mg : Str → Option Value} {base : Heap} (T : Tp K mg)
def rowD : PyData → Bool
  | .str x => plainS x
  | _ => false
def spIsRow : Sp := fun vs H Q _ => ∃ (w g : Addr) (v : V) (d : PyData), vs = [v] ∧ Th w g H v d ∧ (∀ x, d = .str x → x.length ≤ 100000) ∧ Q (.bl (rowD d)) H
theorem ok_is_row : FnOk P wd K mg base CX0 1 T.a_is_row T.d_is_row ["value"] spIsRow := by
  refine T.F_is_row.ok sc_is_row (fun vs H Q E h => ?_) (fun cdv A outer s H vs Q E hr h => ?_)
  · obtain ⟨w, g, v, d, rfl, _⟩ := h
    rfl
  · obtain ⟨w, g, v, d, rfl, t, hs, q⟩ := h
    refine ⟨_, (pss_one (ps_ret (pe_and (pe_callB call_isi rfl T.n_isinstance (by decide +kernel) (pa_cons (pv 0) (pa_cons (pe_bltn (v := .ty "str") rfl T.n_str (by decide +kernel) rfl) pa_nil))) (pe_one (pe_cmpR op_eq (pe_op op_add (pe_bm PySem.F.plainAttrs_str PySem.F.slot_str_count PySem.F.type_str_count mt_count (pv 0) (pa_cons pe_str pa_nil)) (pe_bm PySem.F.plainAttrs_str PySem.F.slot_str_count PySem.F.type_str_count mt_count (pv 0) (pa_cons pe_str pa_nil))) (pe_callB call_len_str rfl T.n_len PySem.boot_len (pa_cons (pv 0) pa_nil)) (nomark _)))))), ?_⟩
    obtain ⟨ty, h1, h2⟩ := t.isStr (K := K)
    have l48 : (Str.ofString "0") = ⟨#[48]⟩ := by decide +kernel
    have l49 : (Str.ofString "1") = ⟨#[49]⟩ := by decide +kernel
    walk_at "go"
    refine ⟨_, _, ty, _, _, rfl, .ty "str", h1, h2, ?_⟩
    refine ⟨_, rfl, ?_⟩
    cases t with
    | str x =>
      refine ifB (fun _ => ?_) (fun c => by cases c)
      rw [l48, l49]
      have hx := hs x rfl
      have hz : x.length ≤ sizeLine := Nat.le_trans hx (by decide)
      walk_at "go"
      have e : decide (V.int (Txt.count x ⟨#[48]⟩ + Txt.count x ⟨#[49]⟩) = V.int (x.length : Int)) = plainS x := by
        rw [Bool.eq_iff_iff, decide_eq_true_iff]
        exact ⟨fun h => (count_plain x).mp (V.int.inj h), fun h => congrArg V.int ((count_plain x).mpr h)⟩
      rw [e]
      exact q
    | _ => exact q
def lenD : PyData → Nat
  | .str x => x.length
  | _ => 0
/-- the word that a thing is told by, None for a table -/
def tabS : PyData → Option Str
  | .tuple [a, b] => if rowD a = false then some ("head" : Str) else if rowD b = false ∨ lenD b = 0 then some ("turn" : Str) else if lenD a > 5000 ∨ lenD b > 5000 then some ("long" : Str) else none
  | _ => some ("pair" : Str)
theorem tab_pair {d : PyData} (h : pairD d = false) : tabS d = some ("pair" : Str) := by
  unfold tabS
  split
  · cases h
  · rfl
theorem row_str {d : PyData} (h : rowD d = true) : ∃ x, d = .str x ∧ plainS x = true := by
  unfold rowD at h
  split at h
  · exact ⟨_, rfl, h⟩
  · cases h
theorem tab_two (a b : PyData) : tabS (.tuple [a, b]) = if rowD a = false then some ("head" : Str) else if rowD b = false ∨ lenD b = 0 then some ("turn" : Str) else if lenD a > 5000 ∨ lenD b > 5000 then some ("long" : Str) else none := rfl
theorem empty_iff {x : Str} : x = "" ↔ x.length = 0 := by
  have e : ("" : Str) = ⟨#[]⟩ := by decide +kernel
  rw [e]
  obtain ⟨c⟩ := x
  constructor
  · intro h
    injection h with h
    subst h
    rfl
  · intro h
    have : c.size = 0 := h
    rw [Array.eq_empty_of_size_eq_zero this]
theorem ok_is_pair : FnOk P wd K mg base CX0 1 T.a_is_pair T.d_is_pair ["value"] spIsPair := by
  refine T.F_is_pair.ok sc_is_pair (fun vs H Q E h => ?_) (fun cdv A outer s H vs Q E hr h => ?_)
  · obtain ⟨w, g, v, d, rfl, _⟩ := h
    rfl
  · obtain ⟨w, g, v, d, rfl, t, q⟩ := h
    refine ⟨_, (pss_one (ps_ret (pe_and (pe_callB call_isi rfl T.n_isinstance (by decide +kernel) (pa_cons (pv 0) (pa_cons (pe_bltn (v := .ty "tuple") rfl T.n_tuple (by decide +kernel) rfl) pa_nil))) (pe_one (pe_cmpR op_eq (pe_callB call_len_seq rfl T.n_len PySem.boot_len (pa_cons (pv 0) pa_nil)) pe_int (nomark _)))))), ?_⟩
    obtain ⟨ty, h1, h2⟩ := t.isTup (K := K)
    walk_at "go"
    refine ⟨_, _, ty, _, _, rfl, .ty "tuple", h1, h2, ?_⟩
    refine ⟨_, rfl, ?_⟩
    cases t with
    | tup h ta =>
      rename_i a xs ds
      refine ifB (fun _ => ?_) (fun c => by cases c)
      have hl := ta.length
      walk_at "go"
      have e : decide (V.int (xs.length : Int) = V.int 2) = pairD (.tuple ds) := by
        rw [hl]
        rcases ds with _ | ⟨d1, _ | ⟨d2, _ | ⟨d3, ds⟩⟩⟩
        · rfl
        · rfl
        · rfl
        · refine decide_eq_false fun z => ?_
          have := V.int.inj z
          simp only [List.length_cons] at this
          omega
      rw [e]
      exact q
    | _ => exact q
def spErr : Sp := fun vs H Q _ => ∃ (w g : Addr) (v : V) (d : PyData), vs = [v] ∧ Th w g H v d ∧ d.weight ≤ 100000 ∧ Q (vO (tabS d)) H
theorem ok_table_error : FnOk P wd K mg base CX0 2 T.a_table_error T.d_table_error ["value"] spErr := by
  have G_is_pair : FnOk P wd K mg base CX0 1 T.a_is_pair T.d_is_pair ["value"] spIsPair := ok_is_pair T
  have G_is_row : FnOk P wd K mg base CX0 1 T.a_is_row T.d_is_row ["value"] spIsRow := ok_is_row T
  refine T.F_table_error.ok sc_table_error (fun vs H Q E h => ?_) (fun cdv A outer s H vs Q E hr h => ?_)
  · obtain ⟨w, g, v, d, rfl, _⟩ := h
    rfl
  · obtain ⟨w, g, v, d, rfl, t, wt, q⟩ := h
    refine ⟨_, (pss_cons (ps_if (pt_not (pt_val (pe_call G_is_pair hr rfl T.g_is_pair T.F_is_pair.kp (b_is_pair T) .nil pass0 (pa_cons (pv 0) pa_nil)))) (pss_one (ps_ret pe_str)) pss_nil)
      (pss_cons (ps_asg (pv 0) (pg_tup rfl (pgs_cons (pg_name (i := 1) sc_table_error.nd rfl (Or.inl rfl)) (pgs_cons (pg_name (i := 2) sc_table_error.nd rfl (Or.inl rfl)) pgs_nil))))
      (pss_cons (ps_if (pt_not (pt_val (pe_call G_is_row hr rfl T.g_is_row T.F_is_row.kp (b_is_row T) .nil pass0 (pa_cons (pv 1) pa_nil)))) (pss_one (ps_ret pe_str)) pss_nil)
      (pss_cons (ps_if (PW.pt (pw_or (pt_not (pt_val (pe_call G_is_row hr rfl T.g_is_row T.F_is_row.kp (b_is_row T) .nil pass0 (pa_cons (pv 2) pa_nil)))) (pw_or1 (pt_cmpR op_eq (pv 2) pe_str (nomark _))))) (pss_one (ps_ret pe_str)) pss_nil)
      (pss_cons (ps_if (PW.pt (pw_or (pt_cmpR op_gt (pe_callB call_len_str rfl T.n_len PySem.boot_len (pa_cons (pv 1) pa_nil)) (pe_glob (v := .int 5000) rfl T.m_MAX_HEAD ⟨_, rfl⟩) (nomark _)) (pw_or1 (pt_cmpR op_gt (pe_callB call_len_str rfl T.n_len PySem.boot_len (pa_cons (pv 2) pa_nil)) (pe_glob (v := .int 5000) rfl T.m_MAX_TURN ⟨_, rfl⟩) (nomark _))))) (pss_one (ps_ret pe_str)) pss_nil)
      (pss_one (ps_ret pe_non))))))), ?_⟩
    walk_at "go"
    refine ⟨w, g, v, d, rfl, t, ?_⟩
    refine ⟨_, rfl, ?_⟩
    cases hp : pairD d with
    | false =>
      refine ifB (fun _ => ?_) (fun c => by cases c)
      walk_at "go"
      rw [tab_pair hp] at q
      exact q
    | true =>
      refine ifB (fun c => by cases c) (fun _ => ?_)
      obtain ⟨d1, d2, rfl⟩ := pair_of hp
      cases t with
      | tup h ta =>
        rename_i a xs
        cases ta with
        | cons t1 ta =>
          cases ta with
          | cons t2 ta =>
            cases ta
            rename_i v1 v2
            have w1 : ∀ x, d1 = .str x → x.length ≤ 100000 := fun x e => by
              subst e
              simp only [PyData.weight, PyData.weightAll] at wt
              have e0 : x.length = x.cps.size := rfl
              omega
            have w2 : ∀ x, d2 = .str x → x.length ≤ 100000 := fun x e => by
              subst e
              simp only [PyData.weight, PyData.weightAll] at wt
              have e0 : x.length = x.cps.size := rfl
              omega
            walk_at "go"
            refine ⟨w, g, v1, d1, rfl, t1, w1, ?_⟩
            refine ⟨_, rfl, ?_⟩
            rw [tab_two] at q
            cases r1 : rowD d1 with
            | false =>
              refine ifB (fun _ => ?_) (fun c => by cases c)
              rw [if_pos r1] at q
              walk_at "go"
              exact q
            | true =>
              refine ifB (fun c => by cases c) (fun _ => ?_)
              rw [if_neg (by rw [r1]; decide)] at q
              walk_at "go"
              refine ⟨w, g, v2, d2, rfl, t2, w2, ?_⟩
              refine ⟨_, rfl, ?_⟩
              cases r2 : rowD d2 with
              | false =>
                rw [if_pos (.inl r2)] at q
                refine ifB (fun _ => ?_) (fun c => by cases c)
                walk_at "go"
                exact q
              | true =>
                obtain ⟨x1, rfl, p1⟩ := row_str r1
                obtain ⟨x2, rfl, p2⟩ := row_str r2
                cases t1
                cases t2
                have b1 := w1 x1 rfl
                have b2 := w2 x2 rfl
                have z1 : x1.length ≤ sizeLine := Nat.le_trans b1 (by decide)
                have z2 : x2.length ≤ sizeLine := Nat.le_trans b2 (by decide)
                refine ifB (fun c => by cases c) (fun _ => ?_)
                walk_at "go"
                refine ifD (fun e => ?_) (fun ne => ?_)
                · have z : x2.length = 0 := empty_iff.mp (V.str.inj e)
                  rw [if_pos (.inr z)] at q
                  walk_at "go"
                  exact q
                · have z : ¬ x2.length = 0 := fun c => ne (congrArg V.str (empty_iff.mpr c))
                  rw [if_neg (fun c => c.elim (fun c => by rw [r2] at c; cases c) z)] at q
                  walk_at "go"
                  refine ifD (fun g1 => ?_) (fun n1 => ?_)
                  · have c : lenD (.str x1) > 5000 := by show x1.length > 5000; omega
                    rw [if_pos (.inl c)] at q
                    walk_at "go"
                    exact q
                  · walk_at "go"
                    refine ifD (fun g2 => ?_) (fun n2 => ?_)
                    · have c : lenD (.str x2) > 5000 := by show x2.length > 5000; omega
                      rw [if_pos (.inr c)] at q
                      walk_at "go"
                      exact q
                    · have c1 : ¬ lenD (.str x1) > 5000 := by show ¬ x1.length > 5000; omega
                      have c2 : ¬ lenD (.str x2) > 5000 := by show ¬ x2.length > 5000; omega
                      rw [if_neg (fun c => c.elim c1 c2)] at q
                      walk_at "go"
                      exact q
def spIsWord : Sp := fun vs H Q _ => ∃ (w g : Addr) (v : V) (d : PyData), vs = [v] ∧ Th w g H v d ∧ (∀ x, d = .str x → x.length ≤ 100000) ∧ Q (.bl (rowD d)) H
theorem ok_is_word : FnT P wd K mg base CX0 1 T.a_is_word T.d_is_word ["_law_thing"] spIsWord := by
  refine fnT_of T.F_is_word sc_is_word (fun vs H Q E h => ?_) (fun cdv A outer s H vs Q E hr h => ?_)
  · obtain ⟨w, g, v, d, rfl, _⟩ := h
    rfl
  · obtain ⟨w, g, v, d, rfl, t, hs, q⟩ := h
    refine ⟨_, (psst_one (CwR.pst_ret (pet_and (pe_callB call_isi rfl T.n_isinstance (by decide +kernel) (pa_cons (pv 0) (pa_cons (pe_bltn (v := .ty "str") rfl T.n_str (by decide +kernel) rfl) pa_nil))) (pet_one (pet_cmpR op_eq (CwR.pet_replT (CwR.pet_replC (pv 0))) pe_str (nomark _)))))), ?_⟩
    obtain ⟨ty, h1, h2⟩ := t.isStr (K := K)
    walk_at "go"
    refine ⟨_, _, ty, _, _, rfl, .ty "str", h1, h2, ?_⟩
    refine ⟨_, rfl, ?_⟩
    cases t with
    | str x =>
      refine ifB (fun _ => ?_) (fun c => by cases c)
      have hx := hs x rfl
      have l48 : (Str.ofString "0") = ⟨#[48]⟩ := by decide +kernel
      have l49 : (Str.ofString "1") = ⟨#[49]⟩ := by decide +kernel
      have l00 : (Str.ofString "") = ⟨#[]⟩ := by decide +kernel
      have z0 : (⟨#[]⟩ : Str).length = 0 := rfl
      have r0 := TK.replace_len x ⟨#[48]⟩ ⟨#[]⟩
      rw [l48, l49, l00]
      refine ⟨_, rfl, x, rfl, by rw [z0]; omega, _, rfl, by rw [z0] at r0 ⊢; omega, ?_⟩
      walk_at "go"
      have e : decide (V.str (Txt.replace (Txt.replace x ⟨#[48]⟩ ⟨#[]⟩) ⟨#[49]⟩ ⟨#[]⟩) = V.str ⟨#[]⟩) = plainS x := by
        rw [Bool.eq_iff_iff, decide_eq_true_iff]
        exact ⟨fun h => (strike_plain x).mp (V.str.inj h), fun h => congrArg V.str ((strike_plain x).mpr h)⟩
      rw [e]
      exact q
    | _ => exact q
end
set_option pp.deepTerms false
set_option pp.deepTerms.threshold 5
section
variable {P : Program} {wd : World} {K : PySem.W.Frag} {mg : Str → Option Value} {base : Heap} (T : Tp K mg)
theorem ok_error : FnT P wd K mg base CX0 2 T.a_error T.d_error ["_law_thing"] spErr := by
  have G_is_word : FnT P wd K mg base CX0 1 T.a_is_word T.d_is_word ["_law_thing"] spIsWord := ok_is_word T
  refine fnT_of T.F_error sc_error (fun vs H Q E h => ?_) (fun cdv A outer s H vs Q E hr h => ?_)
  · obtain ⟨w, g, v, d, rfl, _⟩ := h
    rfl
  · obtain ⟨w, g, v, d, rfl, t, wt, q⟩ := h
    refine ⟨_, (psst_cons (PST.of (ps_if (PW.pt (pw_or (pt_not (pt_val (pe_callB call_isi rfl T.n_isinstance (by decide +kernel) (pa_cons (pv 0) (pa_cons (pe_bltn (v := .ty "tuple") rfl T.n_tuple (by decide +kernel) rfl) pa_nil))))) (pw_or1 (pt_cmpR op_ne (pe_callB call_len_seq rfl T.n_len PySem.boot_len (pa_cons (pv 0) pa_nil)) pe_int (nomark _))))) (pss_one (ps_ret pe_str)) pss_nil))
      (psst_cons (pst_ifT (ptt_not (ptt_val (pet_callT G_is_word hr rfl T.g_is_word T.F_is_word.kp (b_is_word T) .nil pass0 (pat_cons (CwR.PET.of (pe_ix ix_tup (pv 0) pe_int (fun _ _ => rfl))) pat_nil)))) (PSsT.of (pss_one (ps_ret pe_str))) (PSsT.of pss_nil))
      (psst_cons (pst_ifT (PWT.pt (pwt_or (ptt_not (ptt_val (pet_callT G_is_word hr rfl T.g_is_word T.F_is_word.kp (b_is_word T) .nil pass0 (pat_cons (CwR.PET.of (pe_ix ix_tup (pv 0) pe_int (fun _ _ => rfl))) pat_nil)))) (pwt_or1 (PTT.of (pt_cmpR op_eq (pe_ix ix_tup (pv 0) pe_int (fun _ _ => rfl)) pe_str (nomark _)))))) (PSsT.of (pss_one (ps_ret pe_str))) (PSsT.of pss_nil))
      (PSsT.of (pss_one (ps_ret (pe_ifExp (PW.pt (pw_or (pt_cmpR op_gt (pe_callB call_len_str rfl T.n_len PySem.boot_len (pa_cons (pe_ix ix_tup (pv 0) pe_int (fun _ _ => rfl)) pa_nil)) pe_int (nomark _)) (pw_or1 (pt_cmpR op_gt (pe_callB call_len_str rfl T.n_len PySem.boot_len (pa_cons (pe_ix ix_tup (pv 0) pe_int (fun _ _ => rfl)) pa_nil)) pe_int (nomark _))))) pe_str pe_non))))))), ?_⟩
    obtain ⟨ty, h1, h2⟩ := t.isTup (K := K)
    walk_at "go"
    refine ⟨_, _, ty, _, _, rfl, .ty "tuple", h1, h2, ?_⟩
    refine ⟨_, rfl, ?_⟩
    cases t with
    | tup h ta =>
      rename_i a xs ds
      refine ifB (fun c => by cases c) (fun _ => ?_)
      have hl := ta.length
      walk_at "go"
      refine ifDn (fun ne => ?_) (fun ee => ?_)
      · have np : pairD (.tuple ds) = false := by
          rcases ds with _ | ⟨d1, _ | ⟨d2, _ | ⟨d3, ds⟩⟩⟩
          · rfl
          · rfl
          · exact absurd (by rw [hl]; rfl) ne
          · rfl
        rw [tab_pair np] at q
        walk_at "go"
        exact q
      · obtain ⟨d1, d2, rfl⟩ : ∃ d1 d2, ds = [d1, d2] := by
          have e2 := V.int.inj ee
          rw [hl] at e2
          rcases ds with _ | ⟨d1, _ | ⟨d2, _ | ⟨d3, ds⟩⟩⟩
          · cases e2
          · cases e2
          · exact ⟨_, _, rfl⟩
          · simp only [List.length_cons] at e2; omega
        obtain ⟨v1, v2, rfl, t1, t2⟩ := ta.two
        have w1 : ∀ x, d1 = .str x → x.length ≤ 100000 := fun x e => by
          subst e
          simp only [PyData.weight, PyData.weightAll] at wt
          have e0 : x.length = x.cps.size := rfl
          omega
        have w2 : ∀ x, d2 = .str x → x.length ≤ 100000 := fun x e => by
          subst e
          simp only [PyData.weight, PyData.weightAll] at wt
          have e0 : x.length = x.cps.size := rfl
          omega
        rw [tab_two] at q
        walk_at "go"
        refine ⟨w, g, v1, d1, rfl, t1, w1, ?_⟩
        refine ⟨_, rfl, ?_⟩
        cases r1 : rowD d1 with
        | false =>
          rw [if_pos r1] at q
          refine ifB (fun _ => ?_) (fun c => by cases c)
          walk_at "go"
          exact q
        | true =>
          rw [if_neg (by rw [r1]; decide)] at q
          refine ifB (fun c => by cases c) (fun _ => ?_)
          walk_at "go"
          refine ⟨w, g, v2, d2, rfl, t2, w2, ?_⟩
          refine ⟨_, rfl, ?_⟩
          cases r2 : rowD d2 with
          | false =>
            rw [if_pos (.inl r2)] at q
            refine ifB (fun _ => ?_) (fun c => by cases c)
            walk_at "go"
            exact q
          | true =>
            obtain ⟨x1, rfl, p1⟩ := row_str r1
            obtain ⟨x2, rfl, p2⟩ := row_str r2
            cases t1
            cases t2
            have b1 := w1 x1 rfl
            have b2 := w2 x2 rfl
            have z1 : x1.length ≤ sizeLine := Nat.le_trans b1 (by decide)
            have z2 : x2.length ≤ sizeLine := Nat.le_trans b2 (by decide)
            refine ifB (fun c => by cases c) (fun _ => ?_)
            walk_at "go"
            refine ifD (fun e => ?_) (fun ne => ?_)
            · have z : x2.length = 0 := empty_iff.mp (V.str.inj e)
              rw [if_pos (.inr z)] at q
              walk_at "go"
              exact q
            · have z : ¬ x2.length = 0 := fun c => ne (congrArg V.str (empty_iff.mpr c))
              rw [if_neg (fun c => c.elim (fun c => by rw [r2] at c; cases c) z)] at q
              walk_at "go"
              refine ifD (fun g1 => ?_) (fun n1 => ?_)
              · have c : lenD (.str x1) > 5000 := by show x1.length > 5000; omega
                rw [if_pos (.inl c)] at q
                walk_at "go"
                exact q
              · walk_at "go"
                refine ifD (fun g2 => ?_) (fun n2 => ?_)
                · have c : lenD (.str x2) > 5000 := by show x2.length > 5000; omega
                  rw [if_pos (.inr c)] at q
                  walk_at "go"
                  exact q
                · have c1 : ¬ lenD (.str x1) > 5000 := by show ¬ x1.length > 5000; omega
                  have c2 : ¬ lenD (.str x2) > 5000 := by show ¬ x2.length > 5000; omega
                  rw [if_neg (fun c => c.elim c1 c2)] at q
                  walk_at "go"
                  exact q
    | _ =>
      refine ifB (fun _ => ?_) (fun c => by cases c)
      walk_at "go"
      exact q
end
set_option pp.deepTerms false
set_option pp.deepTerms.threshold 5
set_option hygiene false in
local macro_rules | `(tactic| walk_at "mem") => `(tactic| first | exact List.Mem.head _ | (apply List.Mem.tail; walk_at "mem"))
set_option hygiene false in
local macro_rules | `(tactic| walk_at "bt") => `(tactic| first
  | exact Bt.non
  | exact Bt.bl _
  | (refine Bt.int ?_ ?_; (first | omega | decide); (first | omega | decide))
  | (refine Bt.intText ?_ ?_; (first | omega | decide); (first | omega | decide))
  | exact Bt.blText
  | (refine Bt.rep ?_ ?_; (focus decide +kernel); decide +kernel)
  | (refine Bt.str _ ?_; decide +kernel)
  | (refine Bt.code ?_ ?_; (focus decide); decide)
  | (apply Lz.get_tp Y; walk_at "mem")
  | (apply Lz.get_th Y; walk_at "mem")
  | (apply Lz.get_ls Y; walk_at "mem")
  | assumption)
set_option hygiene false in
local macro_rules | `(tactic| walk_at "btl") => `(tactic| first
  | (apply BtL.app; (focus walk_at "btl"); walk_at "btl")
  | (apply BtL.cons; (focus walk_at "bt"); walk_at "btl")
  | exact BtL.nil
  | (apply BtL.rev; walk_at "btl")
  | (apply Lz.ls_bt Y; walk_at "mem")
  | (apply Lz.tp_bt Y; walk_at "mem")
  | assumption)
set_option hygiene false in
local macro_rules | `(tactic| walk_at "bta") => `(tactic| first
  | (apply BtA.app; (focus walk_at "bta"); walk_at "bta")
  | (apply BtA.cons; (focus (apply Bt.mono2; (focus walk_at "bt"); (focus (first | (clear b30; omega) | omega | decide)); (focus (first | (clear b30; omega) | omega | decide)))); walk_at "bta")
  | exact BtA.nil)
set_option hygiene false in
local macro_rules | `(tactic| walk_at "new") => `(tactic| (intro p np; generalize hU : upd _ p _ = HH; first
  | (apply Lz.kT Y np hU; (focus walk_at "btl"); clear Y hU np; intro Y)
  | (apply Lz.kL Y np hU; (focus walk_at "btl"); clear Y hU np; intro Y)
  | (apply Lz.kDk Y np hU; clear Y hU np; intro Zd Y)))
set_option hygiene false in
local macro_rules | `(tactic| walk_at "cat") => `(tactic| (apply Lz.kCat Y; (focus walk_at "mem"); (focus walk_at "mem"); (focus (first | (clear b30; omega) | omega | decide)); clear Y; intro p HH Y))
set_option hygiene false in
local macro_rules | `(tactic| walk_at "tups") => `(tactic| first
  | (apply go_tup; (focus (apply Lz.tp_at Y; walk_at "mem")))
  | (apply go_lenT; (focus (apply Lz.tp_at Y; walk_at "mem")))
  | (apply go_ixT; (focus (apply Lz.tp_at Y; walk_at "mem")); (focus (first | rfl | assumption)))
  | (apply Lz.kSl Y; (focus walk_at "mem"); clear Y; intro p HH Y)
  | (apply Lz.kCatT Y; (focus walk_at "mem"); (focus walk_at "mem"); (focus (first | (clear b30; omega) | omega | decide)); clear Y; intro p HH Y)
  | refine no_part ?_
  | ((try unfold tC); apply Lz.kRep Y; (focus walk_at "mem"); (focus simp); (focus omega); (focus omega); (focus omega); clear Y; intro p HH Y))
set_option hygiene false in
local macro_rules | `(tactic| walk_at "lay1") => `(tactic| first | walk_at "go1" | walk_at "new" | walk_at "tups" | walk_at "cat")
set_option hygiene false in
local macro_rules | `(tactic| walk_at "lay") => `(tactic| repeat (walk_at "lay1"))
set_option hygiene false in
local macro_rules | `(tactic| walk_at "nma") => `(tactic| first
  | (apply NmA.cons; (focus omega); (focus omega); walk_at "nma")
  | exact NmA.nil)
set_option hygiene false in
local macro_rules | `(tactic| walk_at "draw") => `(tactic| (refine ⟨w, g, c, _, rfl, Lz.dk Y, by omega, by omega, fun d HH sd Wd d0 d1 => ?_⟩; replace Y := Lz.goes Y sd Wd; clear sd Wd))
section
variable {P : Program} {wd : World} {K : PySem.W.Frag} {mg : Str → Option Value} {base : Heap} (T : Tp K mg)
theorem goC_lenS {l : List Nat} {R : Str → Prop} (h : l.length ≤ 1000000) (q : R (C l)) : ∃ z, [V.str (C l)] = [V.str z] ∧ z.length ≤ sizeLine ∧ R z := ⟨C l, rfl, by rw [C_len]; exact szM h, q⟩
theorem goC_addS {l m : List Nat} {R : Str → Str → Prop} (h : l.length + m.length ≤ 1000000) (q : R (C l) (C m)) : ∃ i j, V.str (C l) = V.str i ∧ V.str (C m) = V.str j ∧ i.length + j.length ≤ sizeLine ∧ R i j :=
  ⟨C l, C m, rfl, rfl, by rw [C_len, C_len]; exact szM h, q⟩
def As (l : List Nat) : Prop := ∀ k ∈ l, k < 128
theorem As.app {l m : List Nat} (a : As l) (b : As m) : As (l ++ m) := fun k hk => (List.mem_append.mp hk).elim (a k) (b k)
theorem As.take {l : List Nat} (a : As l) (n : Nat) : As (l.take n) := fun k hk => a k (List.mem_of_mem_take hk)
theorem As.drop {l : List Nat} (a : As l) (n : Nat) : As (l.drop n) := fun k hk => a k (List.mem_of_mem_drop hk)
theorem as_B (l : List Bool) : As (l.map cB) := fun k hk => by
  obtain ⟨b, _, rfl⟩ := List.mem_map.mp hk
  cases b <;> decide
/-- noughts and ones -/
def Bn (l : List Nat) : Prop := plainL l = true
theorem bn_mem {l : List Nat} : Bn l ↔ ∀ k ∈ l, k = 48 ∨ k = 49 := by
  unfold Bn plainL
  rw [List.all_eq_true]
  constructor
  · intro h k hk
    have := h k hk
    rw [Bool.or_eq_true, beq_iff_eq, beq_iff_eq] at this
    exact this
  · intro h k hk
    rw [Bool.or_eq_true, beq_iff_eq, beq_iff_eq]
    exact h k hk
theorem Bn.as {l : List Nat} (h : Bn l) : As l := fun k hk => by
  rcases bn_mem.mp h k hk with rfl | rfl <;> decide
theorem Bn.app {l m : List Nat} (a : Bn l) (b : Bn m) : Bn (l ++ m) := bn_mem.mpr fun k hk => (List.mem_append.mp hk).elim (bn_mem.mp a k) (bn_mem.mp b k)
theorem Bn.take {l : List Nat} (a : Bn l) (n : Nat) : Bn (l.take n) := bn_mem.mpr fun k hk => bn_mem.mp a k (List.mem_of_mem_take hk)
theorem bn_B (l : List Bool) : Bn (l.map cB) := bn_mem.mpr fun k hk => by
  obtain ⟨b, _, rfl⟩ := List.mem_map.mp hk
  cases b
  · exact .inl rfl
  · exact .inr rfl
def spLen : Sp := fun vs H Q _ => ∃ (w g c : Addr) (b : Bool), vs = [.ref w, .bl b] ∧ Dk w g c H ∧ ∀ (n : Int) H', Go w g H H' → Dk w g c H' → 0 ≤ n → n ≤ 20001 → Q (.int n) H'
theorem ok_length : FnOk P wd K mg base CX0 3 T.a_length T.d_length ["_law_well_here", "_law_is_great"] spLen := by
  have G_draw : FnOk P wd K mg base CX0 1 T.a_draw T.d_draw ["_law_well_here", "_law_size"] spDraw := ok_draw T
  have G_pick : FnOk P wd K mg base CX0 2 T.a_pick T.d_pick ["_law_well_here", "_law_items"] spPick := ok_pick T
  refine T.F_length.ok sc_length (fun vs H Q E h => ?_) (fun cdv A outer s H vs Q E hr h => ?_)
  · obtain ⟨w, g, c, b, rfl, _⟩ := h
    rfl
  · obtain ⟨w, g, c, b, rfl, W, q⟩ := h
    refine ⟨_, (pss_cons (ps_if (pt_not (pt_val (pv 1))) (pss_one (ps_ret (pe_call G_pick hr rfl T.g_pick T.F_pick.kp (b_pick T) .nil pass0 (pa_cons (pv 0) (pa_cons (pe_lst (pa_cons pe_int (pa_cons pe_int (pa_cons pe_int (pa_cons pe_int (pa_cons pe_int (pa_cons pe_int (pa_cons (pe_call G_draw (hr.mono (by decide)) rfl T.g_draw T.F_draw.kp (b_draw T) .nil pass0 (pa_cons (pv 0) (pa_cons pe_int pa_nil))) pa_nil)))))))) pa_nil))))) pss_nil)
      (pss_cons (ps_set (i := 2) sc_length.nd rfl (Or.inl rfl) (pe_lst (pa_cons pe_int (pa_cons pe_int (pa_cons pe_int (pa_cons pe_int (pa_cons pe_int (pa_cons pe_int (pa_cons pe_int (pa_cons pe_int (pa_cons pe_int (pa_cons (pe_call G_draw (hr.mono (by decide)) rfl T.g_draw T.F_draw.kp (b_draw T) .nil pass0 (pa_cons (pv 0) (pa_cons pe_int pa_nil))) (pa_cons (pe_call G_draw (hr.mono (by decide)) rfl T.g_draw T.F_draw.kp (b_draw T) .nil pass0 (pa_cons (pv 0) (pa_cons pe_int pa_nil))) pa_nil)))))))))))))
      (pss_one (ps_ret (pe_call G_pick hr rfl T.g_pick T.F_pick.kp (b_pick T) .nil pass0 (pa_cons (pv 0) (pa_cons (pv 2) pa_nil))))))), ?_⟩
    have Y : Lz (Dk w g c) (10 ^ 30) w g c H H [] := Lz.nil dok_w W
    walk_at "go"
    refine ifB (fun _ => ?_) (fun _ => ?_)
    · walk_at "lay"
      walk_at "draw"
      walk_at "lay"
      have hl := Y.ls_ac (List.Mem.head _)
      refine ⟨w, g, c, _, _, rfl, Y.dk, hl, by simp, by simp, fun x HH mx sd Wd => ?_⟩
      obtain ⟨f, rfl, f0, f1⟩ := (fun (hA : NmA 0 20001 _) => hA x mx) (by walk_at "nma")
      exact q f HH (Y.go.trans sd) Wd f0 f1
    · walk_at "lay"
      walk_at "draw"
      walk_at "lay"
      walk_at "draw"
      walk_at "lay"
      have hl := Y.ls_ac (List.Mem.head _)
      refine ⟨w, g, c, _, _, rfl, Y.dk, hl, by simp, by simp, fun x HH mx sd Wd => ?_⟩
      obtain ⟨f, rfl, f0, f1⟩ := (fun (hA : NmA 0 20001 _) => hA x mx) (by walk_at "nma")
      exact q f HH (Y.go.trans sd) Wd f0 f1
def spWord : Sp := fun vs H Q _ => ∃ (w g c : Addr) (n : Int), vs = [.ref w, .int n] ∧ Dk w g c H ∧ 0 ≤ n ∧ n ≤ 20001 ∧ ∀ (l : List Nat) H', Go w g H H' → Dk w g c H' → (l.length : Int) = n → Bn l → Q (.str (C l)) H'
theorem ok_word : FnOk P wd K mg base CX0 2 T.a_word T.d_word ["_law_well_here", "_law_size"] spWord := by
  have G_draw : FnOk P wd K mg base CX0 1 T.a_draw T.d_draw ["_law_well_here", "_law_size"] spDraw := ok_draw T
  refine T.F_word.ok sc_word (fun vs H Q E h => ?_) (fun cdv A outer s H vs Q E hr h => ?_)
  · obtain ⟨w, g, c, n, rfl, _⟩ := h
    rfl
  · obtain ⟨w, g, c, n, rfl, W, n0, n1, q⟩ := h
    refine ⟨_, (pss_cons (ps_set (i := 2) sc_word.nd rfl (Or.inr rfl) (pe_call G_draw hr rfl T.g_draw T.F_draw.kp (b_draw T) .nil pass0 (pa_cons (pv 0) (pa_cons pe_int pa_nil))))
      (pss_cons (ps_set (i := 3) sc_word.nd rfl (Or.inl rfl) (pe_bm PySem.F.plainAttrs_str PySem.F.slot_str_join PySem.F.type_str_join mt_join pe_str (pa_cons (pe_lc (own := [("_law_k", 4)]) rfl sc_word.nd (pi_range1 rfl T.n_range (pa_cons (pe_op op_add pe_int (pe_call G_draw hr rfl T.g_draw T.F_draw.kp (b_draw T) .nil pass0 (pa_cons (pv 0) (pa_cons pe_int pa_nil)))) pa_nil)) (blkOk_by (N := nm_word) (sc := defScope s_word) (by decide +kernel)) (fun _ _ _ _ _ => pg_name (i := 4) sc_word.nd rfl (Or.inl rfl)) (fun _ _ _ _ _ => pts_nil) (fun _ _ _ _ _ => (pe_callTy call_str_int rfl T.n_str (by decide +kernel) (pa_cons (pe_op op_mod (pe_callTy call_int1 rfl T.n_int (by decide +kernel) (pa_cons (pe_op op_shr (pv 2) (pv 4)) pa_nil)) pe_int) pa_nil)))) pa_nil)))
      (pss_one (ps_ret (pe_slice sl_str (pe_op op_mulS (pv 3) (pv 1)) po_none (po_some (pv 1))))))), ?_⟩
    walk_at "go"
    refine ⟨w, g, c, _, rfl, W, by omega, by omega, fun d H1 s1 W1 d0 d1 => ?_⟩
    walk_at "go"
    rw [show ("" : Str) = B [] from B_nil]
    refine ⟨w, g, c, _, rfl, W1, by omega, by omega, fun e H2 s2 W2 e0 e1 => ?_⟩
    walk_at "go"
    intro D nD
    refine lc_range (n := (1 + e).toNat) (fun j H4 => ∃ bs : List Bool, H4 D = some (.lst (bs.map fun b => V.str (B [b]))) ∧ bs.length = j ∧ Same H2 H4) ⟨[], upd_same, rfl, same_new nD⟩ (fun j H4 hj p => ?_) (fun H4 p => ?_)
    · obtain ⟨bs, hD, hb, S⟩ := p
      refine ⟨rfl, ?_⟩
      walk_at "go"
      refine ⟨_, hD, small1000 (by rw [List.length_map]; omega), bs ++ [_], by rw [upd_same, List.map_append]; rfl, by rw [List.length_append, hb]; rfl, same_mut S nD⟩
    · obtain ⟨bs, hD, hb, S⟩ := p
      walk_at "go"
      refine go_join hD (by omega) ?_
      rw [joined]
      have hm : bs.length * n.toNat ≤ 1000000 := mul_le (n := 12) (m := 20001) (by omega) (by omega) (by decide)
      have hr : (rep n.toNat bs).length ≤ 1000000 := by rw [rep_length, Nat.mul_comm]; exact hm
      walk_at "go"
      refine q ((rep n.toNat bs).take n.toNat |>.map cB) H4 ((s1.trans s2).trans (Go.of S)) (W2.same S) ?_ (bn_B _)
      rw [List.length_map, List.length_take, rep_length]
      have key : n.toNat * 1 ≤ n.toNat * bs.length := Nat.mul_le_mul_left _ (by omega)
      omega
def spSign : Sp := fun vs H Q _ => ∃ (w g c : Addr), vs = [.ref w] ∧ Dk w g c H ∧ ∀ (l : List Nat) H', Go w g H H' → Dk w g c H' → l.length ≤ 3 → As l → Q (.str (C l)) H'
def SgA (vs : List V) : Prop := ∀ v ∈ vs, ∃ l, v = .str (C l) ∧ l.length ≤ 3 ∧ As l
theorem SgA.nil : SgA [] := fun _ h => by cases h
theorem SgA.cons {x : Str} {vs : List V} (h : (x.cps.toList.length ≤ 3 && x.cps.toList.all fun k => decide (k < 128)) = true) (r : SgA vs) : SgA (.str x :: vs) := fun v hv => by
  rcases List.mem_cons.mp hv with rfl | hv
  · rw [Bool.and_eq_true, decide_eq_true_eq, List.all_eq_true] at h
    exact ⟨x.cps.toList, rfl, h.1, fun k hk => of_decide_eq_true (h.2 k hk)⟩
  · exact r v hv
theorem SgA.app {us vs : List V} (a : SgA us) (b : SgA vs) : SgA (us ++ vs) := fun v hv => (List.mem_append.mp hv).elim (a v) (b v)
theorem ok_sign : FnOk P wd K mg base CX0 3 T.a_sign T.d_sign ["_law_well_here"] spSign := by
  have G_pick : FnOk P wd K mg base CX0 2 T.a_pick T.d_pick ["_law_well_here", "_law_items"] spPick := ok_pick T
  refine T.F_sign.ok sc_sign (fun vs H Q E h => ?_) (fun cdv A outer s H vs Q E hr h => ?_)
  · obtain ⟨w, g, c, rfl, _⟩ := h
    rfl
  · obtain ⟨w, g, c, rfl, W, q⟩ := h
    refine ⟨_, (pss_cons (ps_set (i := 1) sc_sign.nd rfl (Or.inl rfl) (pe_lst (pa_cons pe_str (pa_cons pe_str (pa_cons pe_str (pa_cons pe_str (pa_cons pe_str (pa_cons pe_str (pa_cons pe_str (pa_cons pe_str (pa_cons pe_str (pa_cons pe_str (pa_cons pe_str (pa_cons pe_str (pa_cons pe_str (pa_cons pe_str (pa_cons pe_str (pa_cons pe_str (pa_cons pe_str pa_nil)))))))))))))))))))
      (pss_one (ps_ret (pe_call G_pick hr rfl T.g_pick T.F_pick.kp (b_pick T) .nil pass0 (pa_cons (pv 0) (pa_cons (pe_op op_cat (pv 1) (pe_lst (pa_cons pe_str (pa_cons pe_str (pa_cons pe_str (pa_cons pe_str (pa_cons pe_str pa_nil))))))) pa_nil)))))), ?_⟩
    have Y : Lz (Dk w g c) (10 ^ 30) w g c H H [] := Lz.nil dok_w W
    walk_at "lay"
    have hl := Y.ls_ac (List.Mem.head _)
    refine ⟨w, g, c, _, _, rfl, Y.dk, hl, by simp, by simp, fun x HH mx sd Wd => ?_⟩
    have hN := fun (hA : SgA _) => hA x mx
    obtain ⟨l, rfl, l3, al⟩ := hN (SgA.app (by repeat (first | exact SgA.nil | refine SgA.cons (by decide +kernel) ?_)) (by repeat (first | exact SgA.nil | refine SgA.cons (by decide +kernel) ?_)))
    exact q l HH (Y.go.trans sd) Wd l3 al
def spMarred : Sp := fun vs H Q _ => ∃ (w g c : Addr) (l : List Nat), vs = [.ref w, .str (C l)] ∧ Dk w g c H ∧ l.length ≤ 20001 ∧ As l ∧ ∀ (l : List Nat) H', Go w g H H' → Dk w g c H' → l.length ≤ 20001 → As l → Q (.str (C l)) H'
theorem ok_marred : FnOk P wd K mg base CX0 4 T.a_marred T.d_marred ["_law_well_here", "_law_word_here"] spMarred := by
  have G_draw : FnOk P wd K mg base CX0 1 T.a_draw T.d_draw ["_law_well_here", "_law_size"] spDraw := ok_draw T
  have G_pick : FnOk P wd K mg base CX0 2 T.a_pick T.d_pick ["_law_well_here", "_law_items"] spPick := ok_pick T
  have G_sign : FnOk P wd K mg base CX0 3 T.a_sign T.d_sign ["_law_well_here"] spSign := ok_sign T
  refine T.F_marred.ok sc_marred (fun vs H Q E h => ?_) (fun cdv A outer s H vs Q E hr h => ?_)
  · obtain ⟨w, g, c, l, rfl, _⟩ := h
    rfl
  · obtain ⟨w, g, c, l, rfl, W, ll, al, q⟩ := h
    refine ⟨_, (pss_cons (ps_set (i := 2) sc_marred.nd rfl (Or.inl rfl) (pe_call G_pick (hr.mono (by decide)) rfl T.g_pick T.F_pick.kp (b_pick T) .nil pass0 (pa_cons (pv 0) (pa_cons (pe_lst (pa_cons pe_int (pa_cons (pe_op op_sub (pe_callB call_len_str rfl T.n_len PySem.boot_len (pa_cons (pv 1) pa_nil)) pe_int) (pa_cons (pe_call G_draw (hr.mono (by decide)) rfl T.g_draw T.F_draw.kp (b_draw T) .nil pass0 (pa_cons (pv 0) (pa_cons (pe_op op_add (pe_callB call_len_str rfl T.n_len PySem.boot_len (pa_cons (pv 1) pa_nil)) pe_int) pa_nil))) (pa_cons (pe_call G_draw (hr.mono (by decide)) rfl T.g_draw T.F_draw.kp (b_draw T) .nil pass0 (pa_cons (pv 0) (pa_cons (pe_op op_add (pe_callB call_len_str rfl T.n_len PySem.boot_len (pa_cons (pv 1) pa_nil)) pe_int) pa_nil))) pa_nil))))) pa_nil))))
      (pss_cons (ps_set (i := 2) sc_marred.nd rfl (Or.inl rfl) (pe_callB (call_max2 rfl) rfl T.n_max (by decide +kernel) (pa_cons (pv 2) (pa_cons pe_int pa_nil))))
      (pss_one (ps_ret (pe_slice sl_str (pe_op op_add_str (pe_op op_add_str (pe_slice sl_str (pv 1) po_none (po_some (pv 2))) (pe_call G_sign hr rfl T.g_sign T.F_sign.kp (b_sign T) .nil pass0 (pa_cons (pv 0) pa_nil))) (pe_slice sl_str (pv 1) (po_some (pe_op op_add (pv 2) pe_int)) po_none)) po_none (po_some pe_int)))))), ?_⟩
    have Y : Lz (Dk w g c) (10 ^ 30) w g c H H [] := Lz.nil dok_w W
    walk_at "lay"
    refine ⟨by rw [C_len]; exact szM (by omega), ?_⟩
    rw [C_len]
    walk_at "lay"
    refine ⟨by rw [C_len]; exact szM (by omega), ?_⟩
    rw [C_len]
    walk_at "lay"
    walk_at "draw"
    walk_at "lay"
    refine ⟨by rw [C_len]; exact szM (by omega), ?_⟩
    rw [C_len]
    walk_at "lay"
    walk_at "draw"
    walk_at "lay"
    have hl := Y.ls_ac (List.Mem.head _)
    refine ⟨w, g, c, _, _, rfl, Y.dk, hl, by simp, by simp, fun x HH mx sd Wd => ?_⟩
    have hN := fun (hA : NmA (-1) l.length _) => hA x mx
    obtain ⟨f, rfl, f0, f1⟩ := hN (by walk_at "nma")
    replace Y := Y.goes sd Wd
    clear hN mx hl sd Wd
    walk_at "lay"
    have m0 : (0 : Int) ≤ max f 0 := by omega
    refine ⟨w, g, c, rfl, Y.dk, fun sg HH sd Wd s3 sa => ?_⟩
    replace Y := Y.goes sd Wd
    clear sd Wd
    walk_at "lay"
    refine ⟨by rw [C_len, C_len, List.length_take]; exact szM (by omega), ?_⟩
    rw [C_app]
    walk_at "lay"
    refine ⟨by rw [C_len, C_len, List.length_append, List.length_take, List.length_drop]; exact szM (by omega), ?_⟩
    rw [C_app]
    have lz : (l.take (max f 0).toNat ++ sg ++ l.drop (max f 0 + 1).toNat).length ≤ 1000000 := by
      rw [List.length_append, List.length_append, List.length_take, List.length_drop]
      omega
    walk_at "lay"
    exact q _ _ Y.go Y.dk (by rw [List.length_take]; omega) (((((al.take _).app sa).app (al.drop _))).take _)
end
set_option pp.deepTerms false
set_option pp.deepTerms.threshold 5
set_option hygiene false in
local macro_rules | `(tactic| walk_at "bt") => `(tactic| (refine Bt.int4 ?_ ?_; (first | omega | decide); decide))
section
variable {P : Program} {wd : World} {K : PySem.W.Frag} {mg : Str → Option Value} {base : Heap} (T : Tp K mg)
def spOdd : Sp := fun vs H Q _ => ∃ (w g c : Addr), vs = [.ref w] ∧ Dk w g c H ∧ ∀ x H', Go w g H H' → Dk w g c H' → Bt (10 ^ 39) 9000 12 w g H' x → Q x H'
theorem ok_odd : FnOk P wd K mg base CX0 3 T.a_odd T.d_odd ["_law_well_here"] spOdd := by
  have G_draw : FnOk P wd K mg base CX0 1 T.a_draw T.d_draw ["_law_well_here", "_law_size"] spDraw := ok_draw T
  have G_pick : FnOk P wd K mg base CX0 2 T.a_pick T.d_pick ["_law_well_here", "_law_items"] spPick := ok_pick T
  refine T.F_odd.ok sc_odd (fun vs H Q E h => ?_) (fun cdv A outer s H vs Q E hr h => ?_)
  · obtain ⟨w, g, c, rfl, _⟩ := h
    rfl
  · obtain ⟨w, g, c, rfl, W, q⟩ := h
    refine ⟨_, (pss_cons (ps_set (i := 1) sc_odd.nd rfl (Or.inl rfl) (pe_lst (pa_cons pe_non (pa_cons pe_bl (pa_cons pe_bl (pa_cons pe_int (pa_cons pe_int (pa_cons (pe_un un_neg pe_int) (pa_cons (pe_op op_pow pe_int pe_int) (pa_cons pe_str (pa_cons pe_str (pa_cons pe_str (pa_cons pe_str (pa_cons pe_str (pa_cons pe_str (pa_cons (pe_tup pa_nil) (pa_cons (pe_tup (pa_cons pe_str pa_nil)) (pa_cons (pe_tup (pa_cons pe_str (pa_cons pe_str pa_nil))) (pa_cons (pe_tup (pa_cons pe_str (pa_cons pe_str pa_nil))) pa_nil)))))))))))))))))))
      (pss_cons (ps_set (i := 1) sc_odd.nd rfl (Or.inl rfl) (pe_op op_cat (pv 1) (pe_lst (pa_cons (pe_tup (pa_cons pe_str (pa_cons pe_str (pa_cons pe_str pa_nil)))) (pa_cons (pe_lst pa_nil) (pa_cons (pe_lst (pa_cons pe_str (pa_cons pe_str pa_nil))) (pa_cons (pe_tup (pa_cons pe_str (pa_cons (pe_lst (pa_cons pe_str pa_nil)) pa_nil))) (pa_cons pe_dnewK (pa_cons (pe_disp (pps_cons pe_str pe_str pps_nil) rfl rfl (by simp) (by decide)) (pa_cons (pe_disp (pps_cons pe_int pe_int (pps_cons pe_int pe_int pps_nil)) rfl rfl (by simp) (by decide)) (pa_cons (pe_tup (pa_cons pe_int (pa_cons pe_int pa_nil))) (pa_cons (pe_tup (pa_cons pe_str (pa_cons pe_int pa_nil))) pa_nil))))))))))))
      (pss_cons (ps_set (i := 2) sc_odd.nd rfl (Or.inl rfl) (pe_call G_pick hr rfl T.g_pick T.F_pick.kp (b_pick T) .nil pass0 (pa_cons (pv 0) (pa_cons (pv 1) pa_nil))))
      (pss_cons (ps_for PassesOwn.never rfl (pi_range1 rfl T.n_range (pa_cons (pe_call G_pick hr rfl T.g_pick T.F_pick.kp (b_pick T) .nil pass0 (pa_cons (pv 0) (pa_cons (pe_lst (pa_cons pe_int (pa_cons pe_int (pa_cons pe_int (pa_cons pe_int (pa_cons pe_int (pa_cons (pe_call G_draw (hr.mono (by decide)) rfl T.g_draw T.F_draw.kp (b_draw T) .nil pass0 (pa_cons (pv 0) (pa_cons pe_int pa_nil))) pa_nil))))))) pa_nil))) pa_nil)) (pg_name (i := 3) sc_odd.nd rfl (Or.inl rfl)) (pss_cons (ps_set (i := 4) sc_odd.nd rfl (Or.inl rfl) (pe_lst (pa_cons (pe_tup (pa_cons (pv 2) pa_nil)) (pa_cons (pe_lst (pa_cons (pv 2) pa_nil)) (pa_cons (pe_disp (pps_cons pe_str (pv 2) pps_nil) rfl rfl (by simp) (by decide)) (pa_cons (pe_tup (pa_cons (pv 2) (pa_cons pe_str pa_nil))) (pa_cons (pe_tup (pa_cons pe_str (pa_cons (pv 2) pa_nil))) (pa_cons (pe_lst (pa_cons pe_str (pa_cons (pv 2) pa_nil))) (pa_cons (pe_tup (pa_cons pe_str (pa_cons pe_str (pa_cons (pv 2) pa_nil)))) pa_nil)))))))))
      (pss_one (ps_set (i := 2) sc_odd.nd rfl (Or.inl rfl) (pe_call G_pick hr rfl T.g_pick T.F_pick.kp (b_pick T) .nil pass0 (pa_cons (pv 0) (pa_cons (pv 4) pa_nil)))))))
      (pss_one (ps_ret (pv 2))))))), ?_⟩
    have Y : Lz (Dk w g c) (10 ^ 39) w g c H H [] := Lz.nil dok_w W
    walk_at "lay"
    obtain ⟨z, nd, ud, hd⟩ := Zd
    walk_at "go"
    refine ⟨[(Sum.inr ("0" : Str), .str ("1" : Str))], rfl, by simp, ?_⟩
    rw [show mergeK [] [((Sum.inr ("0" : Str) : Key), V.str ("1" : Str))] = [(Sum.inr ("0" : Str), V.str ("1" : Str))] by simp [mergeK, putK]]
    generalize hV : upd _ p _ = HV
    replace Y := z.dict1 nd ud hV (W1 := 20) (bd_str "0" (by decide +kernel)) (Bt.str "1" (by decide +kernel))
    clear hV hd ud nd z
    walk_at "lay"
    obtain ⟨z, nd, ud, hd⟩ := Zd
    walk_at "go"
    refine ⟨[(Sum.inl 0, .int 1), (Sum.inl 1, .int 0)], rfl, by simp, ?_⟩
    rw [show mergeK [] [((Sum.inl 0 : Key), V.int 1), ((Sum.inl 1 : Key), V.int 0)] = [(Sum.inl 0, V.int 1), (Sum.inl 1, V.int 0)] by simp [mergeK, putK]]
    generalize hV : upd _ p _ = HV
    replace Y := z.dict2 nd ud hV (W1 := 127) (W2 := 127) ⟨by simp [Ok, kD], by decide, by decide⟩ ⟨by simp [Ok, kD], by decide, by decide⟩ (Bt.int4 (by decide) (by decide)) (Bt.int4 (by decide) (by decide))
    clear hV hd ud nd z
    walk_at "lay"
    have hb := (Y.ls_bt (List.Mem.head _)).mono (Nat.le_refl _) (show _ ≤ 5000 by decide) (show _ ≤ 5 by decide)
    have hl := Y.ls_ac (List.Mem.head _)
    refine ⟨w, g, c, _, _, rfl, Y.dk, hl, by simp, by simp, fun x HH mx sd Wd => ?_⟩
    have bx := (hb.mem mx).go Y.tups sd
    have Y2 : Lz (Dk w g c) (10 ^ 39) w g c H HH [.th x 5000 5] := ((Y.wipe).goes sd Wd).addT bx
    clear hb hl mx sd Wd Y bx
    have Y := Y2
    clear Y2
    walk_at "go"
    walk_at "draw"
    walk_at "lay"
    have hl := Y.ls_ac (List.Mem.head _)
    refine ⟨w, g, c, _, _, rfl, Y.dk, hl, by simp, by simp, fun v HH mx sd Wd => ?_⟩
    have hN := fun (hA : NmA 0 6 _) => hA v mx
    obtain ⟨f, rfl, f0, f1⟩ := hN (by walk_at "nma")
    replace Y := (Y.drop).goes sd Wd
    clear hN mx hl sd Wd
    walk_at "go1"
    refine ⟨by omega, by omega, ?_⟩
    refine for_range (n := f.toNat) (fun i σ H2 => ∃ (m : Addr) (x : V) (y3 y4 : Option V), σ = [some (.ref w), some (.ref m), some x, y3, y4] ∧ Lz (Dk w g c) (10 ^ 39) w g c H H2 [.th x (5000 + 500 * i) (5 + i)])
      ⟨_, x, _, _, rfl, Y⟩ (fun i σ H2 hi p => ?_) (fun σ H2 p => ?_)
    · clear Y
      obtain ⟨m, x, y3, y4, rfl, Y⟩ := p
      have hi6 : i < 6 := by omega
      walk_at "lay"
      obtain ⟨z, nd, ud, hd⟩ := Zd
      walk_at "go"
      refine ⟨[(Sum.inr ("0" : Str), x)], rfl, by simp, ?_⟩
      rw [show mergeK [] [((Sum.inr ("0" : Str) : Key), x)] = [(Sum.inr ("0" : Str), x)] by simp [mergeK, putK]]
      generalize hV : upd _ _ _ = HV
      replace Y := z.dict1 nd ud hV (W1 := 20) (bd_str "0" (by decide +kernel)) (z.get_th (v := x) (W := 5000 + 500 * i) (Dp := 5 + i) (by walk_at "mem"))
      clear hV hd ud nd z
      walk_at "lay"
      have hl := Y.ls_ac (List.Mem.head _)
      refine ⟨w, g, c, _, _, rfl, Y.dk, hl, by simp, by simp, fun v HH mx sd Wd => ?_⟩
      suffices hA : BtA (10 ^ 39) (5000 + 500 * (i + 1)) (5 + (i + 1)) w g _ _ from ⟨m, v, _, _, rfl, (Y.wipe.goes sd Wd).addT ((hA v mx).go Y.tups sd)⟩
      clear mx hl sd Wd
      walk_at "bta"
    · clear Y
      obtain ⟨m, x, y3, y4, rfl, Y⟩ := p
      walk_at "go"
      exact q x H2 Y.go Y.dk ((Y.get_th (List.Mem.head _)).mono2 (by omega) (by omega))
end
set_option pp.deepTerms false
set_option pp.deepTerms.threshold 5
set_option hygiene false in
local macro_rules | `(tactic| walk_at "bt") => `(tactic| (refine Bt.int4 ?_ ?_; (first | omega | decide); decide))
set_option hygiene false in
local macro_rules | `(tactic| walk_at "bt") => `(tactic| exact bx _)
set_option hygiene false in
local macro_rules | `(tactic| walk_at "btl") => `(tactic| first | exact b4h _ | exact b4t _)
section
variable {P : Program} {wd : World} {K : PySem.W.Frag} {mg : Str → Option Value} {base : Heap} (T : Tp K mg)
theorem bt_C {l : List Nat} {w g : Addr} {H : Hp} (h : l.length ≤ 20001) (a : As l) : Bt (10 ^ 39) 20001 0 w g H (.str (C l)) := Bt.code h fun k hk => Nat.lt_trans (a k hk) (by decide)
def spBent : Sp := fun vs H Q _ => ∃ (w g c a : Addr) (h t : List Nat), vs = [.ref w, .ref a] ∧ Dk w g c H ∧ H a = some (.tup [.str (C h), .str (C t)]) ∧ h.length ≤ 20001 ∧ t.length ≤ 20001 ∧ As h ∧ As t ∧
  ∀ x H', Go w g H H' → Dk w g c H' → Bt (10 ^ 39) 70000 14 w g H' x → Q x H'
theorem ok_bent : FnOk P wd K mg base CX0 5 T.a_bent T.d_bent ["_law_well_here", "_law_pair"] spBent := by
  have G_draw : FnOk P wd K mg base CX0 1 T.a_draw T.d_draw ["_law_well_here", "_law_size"] spDraw := ok_draw T
  have G_pick : FnOk P wd K mg base CX0 2 T.a_pick T.d_pick ["_law_well_here", "_law_items"] spPick := ok_pick T
  have G_odd : FnOk P wd K mg base CX0 3 T.a_odd T.d_odd ["_law_well_here"] spOdd := ok_odd T
  have G_marred : FnOk P wd K mg base CX0 4 T.a_marred T.d_marred ["_law_well_here", "_law_word_here"] spMarred := ok_marred T
  refine T.F_bent.ok sc_bent (fun vs H Q E h => ?_) (fun cdv A outer s H vs Q E hr h => ?_)
  · obtain ⟨w, g, c, a, h, t, rfl, _⟩ := h
    rfl
  · obtain ⟨w, g, c, a, h, t, rfl, W, ha, lh, lt, ah, at_, q⟩ := h
    refine ⟨_, (pss_cons (ps_asg (pv 1) (pg_tup rfl (pgs_cons (pg_name (i := 2) sc_bent.nd rfl (Or.inl rfl)) (pgs_cons (pg_name (i := 3) sc_bent.nd rfl (Or.inl rfl)) pgs_nil))))
      (pss_cons (ps_set (i := 4) sc_bent.nd rfl (Or.inl rfl) (pe_call G_draw (hr.mono (by decide)) rfl T.g_draw T.F_draw.kp (b_draw T) .nil pass0 (pa_cons (pv 0) (pa_cons pe_int pa_nil))))
      (pss_cons (ps_if (pt_cmpR op_lt (pv 4) pe_int (nomark _)) (pss_one (ps_ret (pe_tup (pa_cons (pe_call G_marred hr rfl T.g_marred T.F_marred.kp (b_marred T) .nil pass0 (pa_cons (pv 0) (pa_cons (pv 2) pa_nil))) (pa_cons (pv 3) pa_nil))))) pss_nil)
      (pss_cons (ps_if (pt_cmpR op_lt (pv 4) pe_int (nomark _)) (pss_one (ps_ret (pe_tup (pa_cons (pv 2) (pa_cons (pe_call G_marred hr rfl T.g_marred T.F_marred.kp (b_marred T) .nil pass0 (pa_cons (pv 0) (pa_cons (pv 3) pa_nil))) pa_nil))))) pss_nil)
      (pss_cons (ps_if (pt_cmpR op_eq (pv 4) pe_int (nomark _)) (pss_one (ps_ret (pe_tup (pa_cons (pe_call G_marred hr rfl T.g_marred T.F_marred.kp (b_marred T) .nil pass0 (pa_cons (pv 0) (pa_cons (pv 2) pa_nil))) (pa_cons (pe_call G_marred hr rfl T.g_marred T.F_marred.kp (b_marred T) .nil pass0 (pa_cons (pv 0) (pa_cons (pv 3) pa_nil))) pa_nil))))) pss_nil)
      (pss_cons (ps_if (pt_cmpR op_eq (pv 4) pe_int (nomark _)) (pss_one (ps_ret (pe_call G_pick (hr.mono (by decide)) rfl T.g_pick T.F_pick.kp (b_pick T) .nil pass0 (pa_cons (pv 0) (pa_cons (pe_lst (pa_cons (pe_tup (pa_cons (pe_call G_odd (hr.mono (by decide)) rfl T.g_odd T.F_odd.kp (b_odd T) .nil pass0 (pa_cons (pv 0) pa_nil)) (pa_cons (pv 3) pa_nil))) (pa_cons (pe_tup (pa_cons (pv 2) (pa_cons (pe_call G_odd (hr.mono (by decide)) rfl T.g_odd T.F_odd.kp (b_odd T) .nil pass0 (pa_cons (pv 0) pa_nil)) pa_nil))) (pa_cons (pe_tup (pa_cons (pe_call G_odd (hr.mono (by decide)) rfl T.g_odd T.F_odd.kp (b_odd T) .nil pass0 (pa_cons (pv 0) pa_nil)) (pa_cons (pe_call G_odd (hr.mono (by decide)) rfl T.g_odd T.F_odd.kp (b_odd T) .nil pass0 (pa_cons (pv 0) pa_nil)) pa_nil))) pa_nil)))) pa_nil))))) pss_nil)
      (pss_cons (ps_if (pt_cmpR op_eq (pv 4) pe_int (nomark _)) (pss_cons (ps_set (i := 5) sc_bent.nd rfl (Or.inl rfl) (pe_lst (pa_cons (pe_callTy call_list_of rfl T.n_list (by decide +kernel) (pa_cons (pv 1) pa_nil)) (pa_cons (pe_tup (pa_cons (pv 2) pa_nil)) (pa_cons (pe_tup (pa_cons (pv 3) pa_nil)) (pa_cons (pe_op op_catA (pv 1) (pe_tup (pa_cons pe_str pa_nil))) (pa_cons (pe_tup (pa_cons (pv 2) (pa_cons (pv 3) (pa_cons (pv 2) pa_nil)))) (pa_cons (pe_op op_add_str (pe_slice sl_str (pv 2) po_none (po_some pe_int)) (pe_slice sl_str (pv 3) po_none (po_some pe_int))) (pa_cons (pe_tup (pa_cons (pv 1) pa_nil)) (pa_cons (pe_tup pa_nil) pa_nil))))))))))
      (pss_one (ps_ret (pe_call G_pick (hr.mono (by decide)) rfl T.g_pick T.F_pick.kp (b_pick T) .nil pass0 (pa_cons (pv 0) (pa_cons (pv 5) pa_nil)))))) pss_nil)
      (pss_cons (ps_if (pt_cmpR op_eq (pv 4) pe_int (nomark _)) (pss_one (ps_ret (pe_call G_pick (hr.mono (by decide)) rfl T.g_pick T.F_pick.kp (b_pick T) .nil pass0 (pa_cons (pv 0) (pa_cons (pe_lst (pa_cons (pe_tup (pa_cons (pe_callTy (call_listS rfl) rfl T.n_list (by decide +kernel) (pa_cons (pe_slice sl_str (pv 2) po_none (po_some pe_int)) pa_nil)) (pa_cons (pv 3) pa_nil))) (pa_cons (pe_tup (pa_cons (pv 2) (pa_cons (pe_callTy (call_listS rfl) rfl T.n_list (by decide +kernel) (pa_cons (pe_slice sl_str (pv 3) po_none (po_some pe_int)) pa_nil)) pa_nil))) (pa_cons (pe_tup (pa_cons (pe_tup (pa_cons (pv 2) pa_nil)) (pa_cons (pv 3) pa_nil))) (pa_cons (pe_tup (pa_cons (pv 2) (pa_cons (pe_tup (pa_cons (pv 3) pa_nil)) pa_nil))) pa_nil))))) pa_nil))))) pss_nil)
      (pss_cons (ps_if (pt_cmpR op_eq (pv 4) pe_int (nomark _)) (pss_one (ps_ret (pe_call G_pick (hr.mono (by decide)) rfl T.g_pick T.F_pick.kp (b_pick T) .nil pass0 (pa_cons (pv 0) (pa_cons (pe_lst (pa_cons (pe_disp (pps_cons (pv 2) (pv 3) pps_nil) rfl rfl (by simp) (by decide)) (pa_cons (pe_disp (pps_cons pe_int (pv 2) (pps_cons pe_int (pv 3) pps_nil)) rfl rfl (by simp) (by decide)) (pa_cons (pe_tup (pa_cons (pv 3) (pa_cons (pv 2) pa_nil))) (pa_cons (pe_tup (pa_cons (pe_callB call_len_str rfl T.n_len PySem.boot_len (pa_cons (pv 2) pa_nil)) (pa_cons (pv 3) pa_nil))) (pa_cons (pe_tup (pa_cons (pv 2) (pa_cons (pe_callB call_len_str rfl T.n_len PySem.boot_len (pa_cons (pv 3) pa_nil)) pa_nil))) pa_nil)))))) pa_nil))))) pss_nil)
      (pss_one (ps_ret (pe_call G_pick (hr.mono (by decide)) rfl T.g_pick T.F_pick.kp (b_pick T) .nil pass0 (pa_cons (pv 0) (pa_cons (pe_lst (pa_cons (pe_tup (pa_cons (pv 2) (pa_cons pe_str pa_nil))) (pa_cons (pe_tup (pa_cons pe_str (pa_cons (pv 3) pa_nil))) (pa_cons (pe_tup (pa_cons (pv 2) (pa_cons (pv 2) pa_nil))) (pa_cons (pe_tup (pa_cons pe_non (pa_cons (pv 3) pa_nil))) (pa_cons (pe_tup (pa_cons (pv 2) (pa_cons pe_non pa_nil))) (pa_cons (pe_tup (pa_cons (pv 2) (pa_cons pe_int pa_nil))) (pa_cons (pe_tup (pa_cons (pv 2) (pa_cons pe_bl pa_nil))) pa_nil)))))))) pa_nil)))))))))))))), ?_⟩
    have Y : Lz (Dk w g c) (10 ^ 39) w g c H H [.tp a [.str (C h), .str (C t)] 40004 0, .th (.str (C h)) 20001 0, .th (.str (C t)) 20001 0] :=
      (((Lz.nil dok_w W).addT (bt_C lt at_)).addT (bt_C lh ah)).add ⟨ha, (BtL.cons (bt_C lh ah) (BtL.cons (bt_C lt at_) BtL.nil)).mono (Nat.le_refl _) (by decide) (by decide)⟩
    walk_at "lay"
    walk_at "draw"
    walk_at "lay"
    refine ifD (fun _ => ?_) (fun _ => ?_)
    · walk_at "lay"
      refine ⟨w, g, c, h, rfl, Y.dk, lh, ah, fun m HH sd Wd lm am => ?_⟩
      replace Y := (Y.goes sd Wd).addT (bt_C lm am)
      clear sd Wd
      walk_at "lay"
      exact q _ _ Y.go Y.dk ((Y.get_tp (List.Mem.head _)).mono2 (by decide) (by decide))
    walk_at "lay"
    refine ifD (fun _ => ?_) (fun _ => ?_)
    · walk_at "lay"
      refine ⟨w, g, c, t, rfl, Y.dk, lt, at_, fun m HH sd Wd lm am => ?_⟩
      replace Y := (Y.goes sd Wd).addT (bt_C lm am)
      clear sd Wd
      walk_at "lay"
      exact q _ _ Y.go Y.dk ((Y.get_tp (List.Mem.head _)).mono2 (by decide) (by decide))
    walk_at "lay"
    refine ifD (fun _ => ?_) (fun _ => ?_)
    · walk_at "lay"
      refine ⟨w, g, c, h, rfl, Y.dk, lh, ah, fun m HH sd Wd lm am => ?_⟩
      replace Y := (Y.goes sd Wd).addT (bt_C lm am)
      clear sd Wd
      walk_at "lay"
      refine ⟨w, g, c, t, rfl, Y.dk, lt, at_, fun m HH sd Wd lm am => ?_⟩
      replace Y := (Y.goes sd Wd).addT (bt_C lm am)
      clear sd Wd
      walk_at "lay"
      exact q _ _ Y.go Y.dk ((Y.get_tp (List.Mem.head _)).mono2 (by decide) (by decide))
    walk_at "lay"
    refine ifD (fun _ => ?_) (fun _ => ?_)
    · walk_at "lay"
      refine ⟨w, g, c, rfl, Y.dk, fun o HH sd Wd bo => ?_⟩
      replace Y := (Y.goes sd Wd).addT bo
      clear sd Wd bo
      walk_at "lay"
      refine ⟨w, g, c, rfl, Y.dk, fun o HH sd Wd bo => ?_⟩
      replace Y := (Y.goes sd Wd).addT bo
      clear sd Wd bo
      walk_at "lay"
      refine ⟨w, g, c, rfl, Y.dk, fun o HH sd Wd bo => ?_⟩
      replace Y := (Y.goes sd Wd).addT bo
      clear sd Wd bo
      walk_at "lay"
      refine ⟨w, g, c, rfl, Y.dk, fun o HH sd Wd bo => ?_⟩
      replace Y := (Y.goes sd Wd).addT bo
      clear sd Wd bo
      walk_at "lay"
      have hl := Y.ls_ac (List.Mem.head _)
      refine ⟨w, g, c, _, _, rfl, Y.dk, hl, by simp, by simp, fun x H' mx s' W' => ?_⟩
      suffices hA : BtA (10 ^ 39) 70000 14 w g _ _ from q x H' (Y.go.trans s') W' ((hA x mx).go Y.tups s')
      clear q mx hl
      walk_at "bta"
    walk_at "lay"
    refine ifD (fun _ => ?_) (fun _ => ?_)
    · walk_at "lay"
      refine ⟨by rw [C_len, C_len, List.length_take, List.length_take]; exact szM (by omega), ?_⟩
      rw [C_app]
      have bx : ∀ H, Bt (10 ^ 39) 180 0 w g H (.str (C (h.take 90 ++ t.take 90))) := fun H => Bt.code (by rw [List.length_append, List.length_take, List.length_take]; omega) fun k hk => Nat.lt_trans (((ah.take _).app (at_.take _)) k hk) (by decide)
      walk_at "lay"
      have hl := Y.ls_ac (List.Mem.head _)
      refine ⟨w, g, c, _, _, rfl, Y.dk, hl, by simp, by simp, fun x H' mx s' W' => ?_⟩
      suffices hA : BtA (10 ^ 39) 70000 14 w g _ _ from q x H' (Y.go.trans s') W' ((hA x mx).go Y.tups s')
      clear q mx hl
      walk_at "bta"
    walk_at "lay"
    refine ifD (fun _ => ?_) (fun _ => ?_)
    · walk_at "lay"
      refine ⟨by rw [C_len, List.length_take]; exact szM (by omega), ?_⟩
      rw [chs_C]
      have b4h : ∀ H, BtL (10 ^ 39) 80 0 w g H ((h.take 40).map fun c => V.str (C [c])) := fun H => (chs_bt fun k hk => Nat.lt_trans ((ah.take _) k hk) (by decide)).mono (Nat.le_refl _) (by rw [List.length_take]; omega) (Nat.le_refl _)
      walk_at "lay"
      refine ⟨by rw [C_len, List.length_take]; exact szM (by omega), ?_⟩
      rw [chs_C]
      have b4t : ∀ H, BtL (10 ^ 39) 80 0 w g H ((t.take 40).map fun c => V.str (C [c])) := fun H => (chs_bt fun k hk => Nat.lt_trans ((at_.take _) k hk) (by decide)).mono (Nat.le_refl _) (by rw [List.length_take]; omega) (Nat.le_refl _)
      walk_at "lay"
      have hl := Y.ls_ac (List.Mem.head _)
      refine ⟨w, g, c, _, _, rfl, Y.dk, hl, by simp, by simp, fun x H' mx s' W' => ?_⟩
      suffices hA : BtA (10 ^ 39) 70000 14 w g _ _ from q x H' (Y.go.trans s') W' ((hA x mx).go Y.tups s')
      clear q mx hl
      walk_at "bta"
    walk_at "lay"
    refine ifD (fun _ => ?_) (fun _ => ?_)
    · walk_at "lay"
      obtain ⟨z, nd, ud, hd⟩ := Zd
      walk_at "go"
      refine ⟨[(Sum.inr (C h), .str (C t))], rfl, by simp, ?_⟩
      rw [show mergeK [] [((Sum.inr (C h) : Key), V.str (C t))] = [(Sum.inr (C h), V.str (C t))] by simp [mergeK, putK]]
      generalize hV : upd _ _ _ = HV
      replace Y := z.dict1 nd ud hV (W1 := 20001) ⟨by simp only [kD, Ok]; exact fun k hk => Nat.lt_trans (ah k hk) (by decide), by show (C h).length ≤ 20001; rw [C_len]; exact lh, by simp [kD, PyData.depth]⟩ (bt_C lt at_)
      clear hV hd ud nd z
      walk_at "lay"
      obtain ⟨z, nd, ud, hd⟩ := Zd
      walk_at "go"
      refine ⟨[(Sum.inl 0, .str (C h)), (Sum.inl 1, .str (C t))], rfl, by simp, ?_⟩
      rw [show mergeK [] [((Sum.inl 0 : Key), V.str (C h)), ((Sum.inl 1 : Key), V.str (C t))] = [(Sum.inl 0, V.str (C h)), (Sum.inl 1, V.str (C t))] by simp [mergeK, putK]]
      generalize hV : upd _ _ _ = HV
      replace Y := z.dict2 nd ud hV (W1 := 127) (W2 := 127) ⟨by simp [Ok, kD], by decide, by decide⟩ ⟨by simp [Ok, kD], by decide, by decide⟩ (bt_C lh ah) (bt_C lt at_)
      clear hV hd ud nd z
      walk_at "lay"
      refine ⟨by rw [C_len]; exact szM (by omega), ?_⟩
      rw [C_len]
      walk_at "lay"
      refine ⟨by rw [C_len]; exact szM (by omega), ?_⟩
      rw [C_len]
      walk_at "lay"
      have hl := Y.ls_ac (List.Mem.head _)
      refine ⟨w, g, c, _, _, rfl, Y.dk, hl, by simp, by simp, fun x H' mx s' W' => ?_⟩
      suffices hA : BtA (10 ^ 39) 70000 14 w g _ _ from q x H' (Y.go.trans s') W' ((hA x mx).go Y.tups s')
      clear q mx hl
      walk_at "bta"
    walk_at "lay"
    have hl := Y.ls_ac (List.Mem.head _)
    refine ⟨w, g, c, _, _, rfl, Y.dk, hl, by simp, by simp, fun x H' mx s' W' => ?_⟩
    suffices hA : BtA (10 ^ 39) 70000 14 w g _ _ from q x H' (Y.go.trans s') W' ((hA x mx).go Y.tups s')
    clear q mx hl
    walk_at "bta"
end
set_option pp.deepTerms false
set_option pp.deepTerms.threshold 5
set_option hygiene false in
local macro_rules | `(tactic| walk_at "bt") => `(tactic| (refine Bt.int4 ?_ ?_; (first | omega | decide); decide))
set_option hygiene false in
local macro_rules | `(tactic| walk_at "bt") => `(tactic| exact bx _)
set_option hygiene false in
local macro_rules | `(tactic| walk_at "btl") => `(tactic| first | exact b4h _ | exact b4t _)
section
variable {P : Program} {wd : World} {K : PySem.W.Frag} {mg : Str → Option Value} {base : Heap} (T : Tp K mg)
theorem row_C {l : List Nat} (h : Bn l) : rowD (.str (C l)) = true := h
theorem tab_none {h u : List Nat} (bh : Bn h) (bu : Bn u) (lh : h.length ≤ 5000) (lu : u.length ≤ 5000) (nu : u.length ≠ 0) : tabS (.tuple [.str (C h), .str (C u)]) = none := by
  rw [tab_two, if_neg (by rw [row_C bh]; decide), if_neg, if_neg]
  · show ¬ ((C h).length > 5000 ∨ (C u).length > 5000)
    rw [C_len, C_len]
    omega
  · rw [row_C bu]
    show ¬ (true = false ∨ (C u).length = 0)
    rw [C_len]
    intro c
    exact c.elim (fun c => by cases c) nu
theorem bd_tab (d : PyData) : Bd (10 ^ 39) 20 0 (dO (tabS d)) := by
  have hw : ∀ s : String, (Str.ofString s).length ≤ 20 → Bd (10 ^ 39) 20 0 (dO (some (Str.ofString s))) := fun s h => bd_str s h
  unfold tabS
  split
  · split
    · exact hw "head" (by decide +kernel)
    · split
      · exact hw "turn" (by decide +kernel)
      · split
        · exact hw "long" (by decide +kernel)
        · exact (bd_non (B := 10 ^ 39)).mono (Nat.le_refl _) (by decide) (by decide)
  · exact hw "pair" (by decide +kernel)
/-! the edges -/
def tw (p q : Bool) (n m : Nat) : Option Str := if p = false then some ("head" : Str) else if q = false ∨ m = 0 then some ("turn" : Str) else if n > 5000 ∨ m > 5000 then some ("long" : Str) else none
theorem tab_str (x y : Str) : tabS (.tuple [.str x, .str y]) = tw (plainS x) (plainS y) x.length y.length := rfl
def It (w g : Addr) (H : Hp) (v : V) (o : Option Str) : Prop := ∃ d, Th w g H v d ∧ d.weight ≤ 100000 ∧ tabS d = o
inductive ItA (w g : Addr) (H : Hp) : List V → List (Option Str) → Prop
  | nil : ItA w g H [] []
  | cons {v : V} {o : Option Str} {vs : List V} {os : List (Option Str)} : It w g H v o → ItA w g H vs os → ItA w g H (v :: vs) (o :: os)
theorem ItA.get {w g : Addr} {H : Hp} {vs : List V} {os : List (Option Str)} (t : ItA w g H vs os) : ∀ {i : Nat} {v : V}, vs[i]? = some v → ∃ o, os[i]? = some o ∧ It w g H v o := by
  induction t with
  | nil => intro i v h; simp at h
  | cons a b ih =>
    intro i v h
    cases i with
    | zero => simp at h; subst h; exact ⟨_, rfl, a⟩
    | succ i => exact ih (i := i) (by simpa using h)
theorem lst_th {D : Hp → Prop} {B W Dp : Nat} {w g c a : Addr} {H0 H : Hp} {es : List En} {xs : List V} {ds : List PyData} (y : Lz D B w g c H0 H es) (h : .ls a xs W Dp ∈ es) (t : ThAll w g H xs ds) : Th w g H (.ref a) (.list ds) :=
  .lst (y.ls_ac h).nw (y.ls_ac h).ng (y.ls_at h) t
theorem ItA.len {w g : Addr} {H : Hp} {vs : List V} {os : List (Option Str)} (t : ItA w g H vs os) : vs.length = os.length := by
  induction t with
  | nil => rfl
  | cons a b ih => rw [List.length_cons, List.length_cons, ih]
theorem th_Os {w g : Addr} {H : Hp} : ∀ os : List (Option Str), ThAll w g H (os.map vO) (os.map dO)
  | [] => .nil
  | o :: os => .cons (th_O o) (th_Os os)
theorem it_any {w g : Addr} {H : Hp} {v : V} {o : Option Str} {d : PyData} (t : Th w g H v d) (wt : d.weight ≤ 100000) (e : tabS d = o) : It w g H v o := ⟨d, t, wt, e⟩
theorem it_tt {w g a : Addr} {H : Hp} {x y : Str} {p q : Bool} {n m : Nat} {o : Option Str} (h : H a = some (.tup [.str x, .str y])) (px : plainS x = p) (py : plainS y = q) (lx : x.length = n) (ly : y.length = m) (ln : n ≤ 20000 ∧ m ≤ 20000) (e : tw p q n m = o) : It w g H (.ref a) o := by
  refine ⟨_, .tup h (.cons (.str x) (.cons (.str y) .nil)), ?_, ?_⟩
  · simp only [PyData.weight, PyData.weightAll]
    have e1 : x.cps.size = n := lx
    have e2 : y.cps.size = m := ly
    omega
  · rw [tab_str, px, py, lx, ly]
    exact e
theorem ps_rep {l : List Nat} {n : Nat} (h : l = [48] ∨ l = [49]) : plainS (C (repN n l)) = true := by
  have : Bn (repN n l) := bn_mem.mpr fun k hk => by
    have := repN_mem hk
    rcases h with rfl | rfl
    · exact .inl (List.mem_singleton.mp this)
    · exact .inr (List.mem_singleton.mp this)
  exact this
theorem ps_rep2 {l : List Nat} {n : Nat} (h : l = [50]) (hn : 0 < n) : plainS (C (repN n l)) = false := by
  subst h
  show plainL (repN n [50]) = false
  obtain ⟨m, rfl⟩ : ∃ m, n = m + 1 := ⟨n - 1, by omega⟩
  rfl
theorem rep_len1 {l : List Nat} {n : Nat} (h : l.length = 1) : (C (repN n l)).length = n := by rw [C_len, repN_length, h, Nat.mul_one]
set_option hygiene false in
local macro_rules | `(tactic| walk_at "th1") => `(tactic| first
  | exact Th.str _
  | exact Th.int _
  | exact Th.bl _
  | exact Th.non
  | (apply Th.tup; (focus (apply Lz.tp_at Y; walk_at "mem")); walk_at "tha")
  | (apply lst_th Y; (focus walk_at "mem"); walk_at "tha"))
set_option hygiene false in
local macro_rules | `(tactic| walk_at "tha") => `(tactic| first
  | exact ThAll.nil
  | (apply ThAll.cons; (focus walk_at "th1"); walk_at "tha"))
set_option hygiene false in
local macro_rules | `(tactic| walk_at "psx") => `(tactic| first
  | with_reducible exact ps_rep (by decide +kernel)
  | with_reducible exact ps_rep2 (by decide +kernel) (by decide)
  | exact rfl)
set_option hygiene false in
local macro_rules | `(tactic| walk_at "lnx") => `(tactic| first
  | with_reducible exact rep_len1 (by decide +kernel)
  | exact rfl)
set_option hygiene false in
local macro_rules | `(tactic| walk_at "it1") => `(tactic| first
  | (apply it_tt; (focus (apply Lz.tp_at Y; walk_at "mem")); (focus walk_at "psx"); (focus walk_at "psx"); (focus walk_at "lnx"); (focus walk_at "lnx"); (focus decide +kernel); decide +kernel)
  | (apply it_any; (focus walk_at "th1"); (focus decide +kernel); decide +kernel))
set_option hygiene false in
local macro_rules | `(tactic| walk_at "ita") => `(tactic| first
  | exact ItA.nil
  | (refine ItA.cons ?_ ?_; (focus walk_at "it1"); walk_at "ita"))
theorem ItA.bd {w g : Addr} {H : Hp} {vs : List V} {os : List (Option Str)} (t : ItA w g H vs os) : BdL (10 ^ 39) (os.length * 21) 0 (os.map dO) := by
  induction t with
  | nil => exact ⟨fun _ h => (by cases h), Nat.le_refl _, fun _ h => (by cases h)⟩
  | @cons v o vs os a b ih =>
    obtain ⟨d, _, _, rfl⟩ := a
    have h := (BdL.one (bd_tab d)).app ih
    exact h.mono (Nat.le_refl _) (by rw [List.length_cons]; omega) (Nat.le_refl _)
def toldL : List (Option Str) := [some ("turn" : Str), none, none, none, some ("long" : Str), some ("long" : Str), some ("turn" : Str), some ("turn" : Str), some ("head" : Str), some ("long" : Str), some ("pair" : Str), some ("pair" : Str), some ("pair" : Str), some ("pair" : Str),
  some ("head" : Str), some ("turn" : Str), some ("head" : Str), some ("turn" : Str), some ("head" : Str), some ("turn" : Str), some ("head" : Str), some ("turn" : Str), some ("head" : Str), some ("turn" : Str), some ("head" : Str), some ("turn" : Str)]
theorem kb_table_error_value : KBinds K T.d_table_error ["value"] ["value"] oneW oneW := by
  obtain ⟨oc, od, kV, doc, pm, an, cdv, ct, osl, e, lk, hcd⟩ := T.F_table_error.ex
  rw [e]
  exact kbinds_one fun a => rfl
def spLaw (K : PySem.W.Frag) : Sp := fun vs H Q _ => ∃ (a : Addr) (ns : List Int), vs = [.ref a] ∧ SqL K H a (ns.map V.int) ∧ ns.length ≤ 63 ∧ ∀ H', Q (.bl true) H'
theorem ok_law (hsy : HasSys base) : FnG P wd K mg base 6 T.a_law T.d_law ["_law_script"] (spLaw K) := by
  have G_well : FnOk P wd K mg base CX0 1 T.a_well T.d_well ["_law_script"] (spWell K) := ok_well T
  have G_length : FnOk P wd K mg base CX0 3 T.a_length T.d_length ["_law_well_here", "_law_is_great"] spLen := ok_length T
  have G_word : FnOk P wd K mg base CX0 2 T.a_word T.d_word ["_law_well_here", "_law_size"] spWord := ok_word T
  have G_odd : FnOk P wd K mg base CX0 3 T.a_odd T.d_odd ["_law_well_here"] spOdd := ok_odd T
  have G_bent : FnOk P wd K mg base CX0 5 T.a_bent T.d_bent ["_law_well_here", "_law_pair"] spBent := ok_bent T
  have G_error : FnT P wd K mg base CX0 2 T.a_error T.d_error ["_law_thing"] spErr := ok_error T
  have G_table_error : FnOk P wd K mg base CX0 2 T.a_table_error T.d_table_error ["value"] spErr := ok_table_error T
  refine fnG_of T.F_law sc_law (fun vs H Q E h => ?_) (fun cdv A ou s H vs Q E hgd0 hr h => ?_)
  · obtain ⟨a, ns, rfl, _⟩ := h
    rfl
  · have hgd : (cxOf CX0 P wd K mg base nm_law "law" (defScope s_law) T.a_law cdv A ou s H E).nox.A.guards = some [] := hgd0
    have hu4 : (cxOf CX0 P wd K mg base nm_law "law" (defScope s_law) T.a_law cdv A ou s H E).nox.A.units + 64 < cLine := hr.units
    obtain ⟨a, ns, rfl, hS, hl, q⟩ := h
    refine ⟨_, (pss_cons (ps_set (i := 1) sc_law.nd rfl (Or.inl rfl) (pe_call G_well (hr.mono (by decide)) rfl T.g_well T.F_well.kp (b_well T) .nil pass0 (pa_cons (pv 0) pa_nil)))
      (pss_cons (ps_forT PassesOwn.never rfl (pi1_range1 rfl T.n_range (pa_cons pe_int pa_nil)) (pg_name (i := 2) sc_law.nd rfl (Or.inl rfl)) (psst_cons (PST.of (ps_set (i := 3) sc_law.nd rfl (Or.inl rfl) (pe_tup (pa_cons (pe_call G_word (hr.mono (by decide)) rfl T.g_word T.F_word.kp (b_word T) .nil pass0 (pa_cons (pv 1) (pa_cons (pe_call G_length (hr.mono (by decide)) rfl T.g_length T.F_length.kp (b_length T) .nil pass0 (pa_cons (pv 1) (pa_cons (pe_cmpR op_eq (pe_op op_mod (pe_callTy call_int1 rfl T.n_int (by decide +kernel) (pa_cons (pv 2) pa_nil)) pe_int) pe_int (nomark _)) pa_nil))) pa_nil))) (pa_cons (pe_call G_word (hr.mono (by decide)) rfl T.g_word T.F_word.kp (b_word T) .nil pass0 (pa_cons (pv 1) (pa_cons (pe_call G_length (hr.mono (by decide)) rfl T.g_length T.F_length.kp (b_length T) .nil pass0 (pa_cons (pv 1) (pa_cons (pe_cmpR op_eq (pv 2) pe_int (nomark _)) pa_nil))) pa_nil))) pa_nil)))))
      (psst_cons (PST.of (ps_set (i := 4) sc_law.nd rfl (Or.inl rfl) (pe_tup (pa_cons (pe_slice sl_str (pe_ix ix_tup (pv 3) pe_int (fun _ _ => rfl)) po_none (po_some pe_int)) (pa_cons (pe_op op_add_str (pe_slice sl_str (pe_ix ix_tup (pv 3) pe_int (fun _ _ => rfl)) po_none (po_some pe_int)) (pe_op op_mulS pe_str (pe_callTy call_int1 rfl T.n_int (by decide +kernel) (pa_cons (pe_cmpR op_eq (pe_ix ix_tup (pv 3) pe_int (fun _ _ => rfl)) pe_str (nomark _)) pa_nil)))) pa_nil)))))
      (psst_cons (PST.of (ps_set (i := 5) sc_law.nd rfl (Or.inl rfl) (pe_lst (pa_cons (pv 3) (pa_cons (pv 4) (pa_cons (pe_call G_bent hr rfl T.g_bent T.F_bent.kp (b_bent T) .nil pass0 (pa_cons (pv 1) (pa_cons (pv 3) pa_nil))) (pa_cons (pe_call G_bent hr rfl T.g_bent T.F_bent.kp (b_bent T) .nil pass0 (pa_cons (pv 1) (pa_cons (pv 4) pa_nil))) (pa_cons (pe_call G_bent hr rfl T.g_bent T.F_bent.kp (b_bent T) .nil pass0 (pa_cons (pv 1) (pa_cons (pv 4) pa_nil))) pa_nil))))))))
      (psst_cons (PST.of (ps_set (i := 5) sc_law.nd rfl (Or.inl rfl) (pe_op op_cat (pv 5) (pe_lst (pa_cons (pe_call G_odd (hr.mono (by decide)) rfl T.g_odd T.F_odd.kp (b_odd T) .nil pass0 (pa_cons (pv 1) pa_nil)) (pa_cons (pe_tup (pa_cons (pe_call G_odd (hr.mono (by decide)) rfl T.g_odd T.F_odd.kp (b_odd T) .nil pass0 (pa_cons (pv 1) pa_nil)) (pa_cons (pe_ix ix_tup (pv 4) pe_int (fun _ _ => rfl)) pa_nil))) (pa_cons (pe_tup (pa_cons (pe_ix ix_tup (pv 4) pe_int (fun _ _ => rfl)) (pa_cons (pe_call G_odd (hr.mono (by decide)) rfl T.g_odd T.F_odd.kp (b_odd T) .nil pass0 (pa_cons (pv 1) pa_nil)) pa_nil))) (pa_cons (pv 4) pa_nil))))))))
      (psst_cons (PST.of (ps_set (i := 6) sc_law.nd rfl (Or.inl rfl) (pe_callB (call_reprT hsy hgd hu4) rfl T.n_repr (by decide +kernel) (pa_cons (pv 5) pa_nil))))
      (psst_cons (pst_forT PassesOwn.never rfl (pi_list (pv 5)) (pg_name (i := 7) sc_law.nd rfl (Or.inl rfl)) (psst_cons (pst_setT (i := 8) sc_law.nd rfl (Or.inl rfl) (pet_callBT (call_reprT hsy hgd hu4) rfl T.n_repr (by decide +kernel) (pat_cons (pet_callT G_error (hr.mono (by decide)) rfl T.g_error T.F_error.kp (b_error T) .nil pass0 (pat_cons (CwR.PET.of (pv 7)) pat_nil)) pat_nil)))
      (PSsT.of (pss_one (ps_if (PW.pt (pw_or (pt_cmpR op_ne (pe_callB (call_reprT hsy hgd hu4) rfl T.n_repr (by decide +kernel) (pa_cons (pe_call G_table_error (hr.mono (by decide)) rfl T.g_table_error T.F_table_error.kp (b_table_error T) .nil pass0 (pa_cons (pv 7) pa_nil)) pa_nil)) (pv 8) (nomark _)) (pw_or1 (pt_cmpR op_ne (pe_callB (call_reprT hsy hgd hu4) rfl T.n_repr (by decide +kernel) (pa_cons (pe_callK0 G_table_error (hr.mono (by decide)) rfl T.g_table_error T.F_table_error.kp (kb_table_error_value T) pass0 (pk_cons (pv 7) pk_nil)) pa_nil)) (pv 8) (nomark _))))) (pss_one (ps_ret pe_bl)) pss_nil)))))
      (PSsT.of (pss_one (ps_if (PW.pt (pw_or (pt_cmpR op_ne (pe_callB (call_reprT hsy hgd hu4) rfl T.n_repr (by decide +kernel) (pa_cons (pv 5) pa_nil)) (pv 6) (nomark _)) (pw_or1 (pt_cmpR op_ne (pe_callB (call_reprT hsy hgd hu4) rfl T.n_repr (by decide +kernel) (pa_cons (pe_call G_table_error (hr.mono (by decide)) rfl T.g_table_error T.F_table_error.kp (b_table_error T) .nil pass0 (pa_cons (pv 4) pa_nil)) pa_nil)) pe_str (nomark _))))) (pss_one (ps_ret pe_bl)) pss_nil))))))))))
      (pss_cons (ps_set (i := 9) sc_law.nd rfl (Or.inl rfl) (pe_lst (pa_cons (pe_tup (pa_cons pe_str (pa_cons pe_str pa_nil))) (pa_cons (pe_tup (pa_cons pe_str (pa_cons pe_str pa_nil))) (pa_cons (pe_tup (pa_cons pe_str (pa_cons pe_str pa_nil))) (pa_cons (pe_tup (pa_cons (pe_op op_mulS pe_str pe_int) (pa_cons (pe_op op_mulS pe_str pe_int) pa_nil))) (pa_cons (pe_tup (pa_cons (pe_op op_mulS pe_str pe_int) (pa_cons pe_str pa_nil))) (pa_cons (pe_tup (pa_cons pe_str (pa_cons (pe_op op_mulS pe_str pe_int) pa_nil))) pa_nil))))))))
      (pss_cons (ps_set (i := 9) sc_law.nd rfl (Or.inl rfl) (pe_op op_cat (pv 9) (pe_lst (pa_cons (pe_tup (pa_cons (pe_op op_mulS pe_str pe_int) (pa_cons pe_str pa_nil))) (pa_cons (pe_tup (pa_cons (pe_op op_mulS pe_str pe_int) (pa_cons pe_str pa_nil))) (pa_cons (pe_tup (pa_cons (pe_op op_mulS pe_str pe_int) (pa_cons pe_str pa_nil))) (pa_cons (pe_tup (pa_cons (pe_op op_mulS pe_str pe_int) (pa_cons (pe_op op_mulS pe_str pe_int) pa_nil))) (pa_cons pe_str (pa_cons (pe_lst (pa_cons pe_str (pa_cons pe_str pa_nil))) pa_nil)))))))))
      (pss_cons (ps_set (i := 9) sc_law.nd rfl (Or.inl rfl) (pe_op op_cat (pv 9) (pe_lst (pa_cons (pe_tup (pa_cons pe_str (pa_cons pe_str (pa_cons pe_str pa_nil)))) (pa_cons (pe_tup (pa_cons pe_str pa_nil)) (pa_cons (pe_tup (pa_cons pe_str (pa_cons pe_str pa_nil))) (pa_cons (pe_tup (pa_cons pe_str (pa_cons pe_str pa_nil))) (pa_cons (pe_tup (pa_cons pe_str (pa_cons pe_str pa_nil))) (pa_cons (pe_tup (pa_cons pe_str (pa_cons pe_str pa_nil))) (pa_cons (pe_tup (pa_cons pe_non (pa_cons pe_str pa_nil))) pa_nil))))))))))
      (pss_cons (ps_set (i := 9) sc_law.nd rfl (Or.inl rfl) (pe_op op_cat (pv 9) (pe_lst (pa_cons (pe_tup (pa_cons pe_str (pa_cons pe_non pa_nil))) (pa_cons (pe_tup (pa_cons (pe_tup (pa_cons pe_str pa_nil)) (pa_cons pe_str pa_nil))) (pa_cons (pe_tup (pa_cons pe_str (pa_cons (pe_lst (pa_cons pe_str pa_nil)) pa_nil))) (pa_cons (pe_tup (pa_cons pe_bl (pa_cons pe_str pa_nil))) (pa_cons (pe_tup (pa_cons pe_str (pa_cons pe_int pa_nil))) (pa_cons (pe_tup (pa_cons pe_str (pa_cons pe_str pa_nil))) (pa_cons (pe_tup (pa_cons pe_str (pa_cons pe_str pa_nil))) pa_nil))))))))))
      (pss_cons (ps_set (i := 10) sc_law.nd rfl (Or.inl rfl) (pe_lst (pa_cons pe_str (pa_cons pe_non (pa_cons pe_non (pa_cons pe_non (pa_cons pe_str (pa_cons pe_str (pa_cons pe_str (pa_cons pe_str (pa_cons pe_str (pa_cons pe_str (pa_cons pe_str (pa_cons pe_str (pa_cons pe_str (pa_cons pe_str pa_nil))))))))))))))))
      (pss_cons (ps_set (i := 10) sc_law.nd rfl (Or.inl rfl) (pe_op op_cat (pv 10) (pe_lst (pa_cons pe_str (pa_cons pe_str (pa_cons pe_str (pa_cons pe_str (pa_cons pe_str (pa_cons pe_str (pa_cons pe_str (pa_cons pe_str (pa_cons pe_str (pa_cons pe_str (pa_cons pe_str (pa_cons pe_str pa_nil)))))))))))))))
      (pss_one (ps_ret (pe_cmpR op_eq (pe_callB (call_reprT hsy hgd hu4) rfl T.n_repr (by decide +kernel) (pa_cons (pe_lc (own := [("_law_thing", 7)]) rfl sc_law.nd (pi_list (pv 9)) (blkOk_by (N := nm_law) (sc := defScope s_law) (by decide +kernel)) (fun _ _ _ _ _ => pg_name (i := 7) sc_law.nd rfl (Or.inl rfl)) (fun _ _ _ _ _ => pts_nil) (fun _ _ _ _ _ => (pe_call G_table_error (hr.mono (by decide)) rfl T.g_table_error T.F_table_error.kp (b_table_error T) .nil pass0 (pa_cons (pv 7) pa_nil)))) pa_nil)) (pe_callB (call_reprT hsy hgd hu4) rfl T.n_repr (by decide +kernel) (pa_cons (pv 10) pa_nil)) (nomark _)))))))))))), ?_⟩
    walk_at "go"
    refine ⟨a, ns, rfl, hS, hl, fun w g c H1 s1 W1 => ?_⟩
    walk_at "go"
    refine for_it walk_range (fun i σ H3 => ∃ (y2 y3 y4 y5 y6 y7 y8 : Option V), σ = [some (.ref a), some (.ref w), y2, y3, y4, y5, y6, y7, y8, none, none] ∧ Dk w g c H3)
      ⟨_, _, _, _, _, _, _, rfl, W1⟩ (fun _ _ _ _ _ => trivial) (fun i x σ H2 H3 hi px y => ?_) (fun σ H3 px => ?_)
    · clear W1 s1 hS hl q
      obtain ⟨y2, y3, y4, y5, y6, y7, y8, rfl, W3⟩ := px
      obtain ⟨rfl, rfl⟩ := y
      have Y : Lz (Dk w g c) (10 ^ 39) w g c H3 H3 [] := Lz.nil dok_w W3
      clear W3
      walk_at "lay"
      refine ⟨w, g, c, _, rfl, Y.dk, fun n1 HH sd Wd n01 n11 => ?_⟩
      replace Y := Y.goes sd Wd
      clear sd Wd
      walk_at "lay"
      refine ⟨w, g, c, n1, rfl, Y.dk, n01, n11, fun h HH sd Wd lh bh => ?_⟩
      have mh : h.length ≤ 20001 := by omega
      replace Y := (Y.goes sd Wd).addT (bt_C mh bh.as)
      clear sd Wd
      walk_at "lay"
      refine ⟨w, g, c, _, rfl, Y.dk, fun n2 HH sd Wd n02 n12 => ?_⟩
      replace Y := Y.goes sd Wd
      clear sd Wd
      walk_at "lay"
      refine ⟨w, g, c, n2, rfl, Y.dk, n02, n12, fun u HH sd Wd lu bu => ?_⟩
      have mu : u.length ≤ 20001 := by omega
      replace Y := (Y.goes sd Wd).addT (bt_C mu bu.as)
      clear sd Wd
      walk_at "lay"
      obtain ⟨pq, rfl⟩ : ∃ q, q = p := ⟨p, rfl⟩
      refine Or.inr ⟨_, rfl, ?_⟩
      have hkk : (if decide (V.str (C u) = V.str (Str.ofString "")) = true then (1 : Int) else 0) = ((if u.length = 0 then 1 else 0 : Nat) : Int) := by
        have e : (V.str (C u) = V.str (Str.ofString "")) ↔ u.length = 0 := by
          rw [show (Str.ofString "") = C [] by decide +kernel]
          exact ⟨fun e => by rw [C_inj (V.str.inj e)]; rfl, fun e => by rw [List.length_eq_zero_iff.mp e]⟩
        by_cases z : u.length = 0
        · rw [if_pos z, if_pos (decide_eq_true (e.mpr z))]; rfl
        · rw [if_neg z, if_neg (by rw [decide_eq_false (fun q => z (e.mp q))]; decide)]; rfl
      rw [hkk]
      generalize hk : (if u.length = 0 then 1 else 0 : Nat) = k
      have k1 : k ≤ 1 := by rw [← hk]; split <;> omega
      have e48 : (Str.ofString "0") = C [48] := by decide +kernel
      have m1 : [48].length * ((k : Nat) : Int).toNat ≤ 1000000 := by simp; omega
      rw [e48]
      walk_at "lay"
      refine ⟨by rw [C_len, C_len, List.length_take, repN_length]; simp; exact szM (by omega), ?_⟩
      rw [C_app]
      generalize eu : List.take _ u ++ repN _ _ = up
      generalize eh : List.take _ h = hp
      have lup : up.length ≤ 5000 ∧ up.length ≠ 0 := by
        rw [← eu, List.length_append, List.length_take, repN_length, ← hk]
        have e5 : ((5000 : Int)).toNat = 5000 := rfl
        simp only [List.length_cons, List.length_nil]
        split <;> omega
      have lhp : hp.length ≤ 5000 := by
        rw [← eh, List.length_take]
        have e5 : ((5000 : Int)).toNat = 5000 := rfl
        omega
      have bup : Bn up := eu ▸ (bu.take _).app (bn_mem.mpr fun x hx => .inl (List.mem_singleton.mp (repN_mem hx)))
      have bhp : Bn hp := eh ▸ bh.take _
      have cup : ∀ H, Bt (10 ^ 39) 5000 0 w g H (.str (C up)) := fun H => Bt.code lup.1 fun k hk => Nat.lt_trans (bup.as k hk) (by decide)
      have chp : ∀ H, Bt (10 ^ 39) 5000 0 w g H (.str (C hp)) := fun H => Bt.code lhp fun k hk => Nat.lt_trans (bhp.as k hk) (by decide)
      clear eu eh hk k1 m1 e48 hkk
      replace Y := (Y.addT (chp _)).addT (cup _)
      walk_at "lay"
      obtain ⟨pp, rfl⟩ : ∃ q, q = p := ⟨p, rfl⟩
      have lhp2 : hp.length ≤ 20001 := by omega
      have lup2 : up.length ≤ 20001 := by omega
      refine ⟨w, g, c, pq, h, u, rfl, Y.dk, Y.tp_at (by walk_at "mem"), mh, mu, bh.as, bu.as, fun x1 HH sd Wd b1 => ?_⟩
      replace Y := (Y.goes sd Wd).addT b1
      clear sd Wd b1
      walk_at "lay"
      refine ⟨w, g, c, pp, hp, up, rfl, Y.dk, Y.tp_at (by walk_at "mem"), lhp2, lup2, bhp.as, bup.as, fun x2 HH sd Wd b2 => ?_⟩
      replace Y := (Y.goes sd Wd).addT b2
      clear sd Wd b2
      walk_at "lay"
      refine ⟨w, g, c, pp, hp, up, rfl, Y.dk, Y.tp_at (by walk_at "mem"), lhp2, lup2, bhp.as, bup.as, fun x3 HH sd Wd b3 => ?_⟩
      replace Y := (Y.goes sd Wd).addT b3
      clear sd Wd b3
      walk_at "lay"
      refine ⟨w, g, c, rfl, Y.dk, fun x4 HH sd Wd b4 => ?_⟩
      replace Y := (Y.goes sd Wd).addT b4
      clear sd Wd b4
      walk_at "lay"
      refine ⟨w, g, c, rfl, Y.dk, fun x5 HH sd Wd b5 => ?_⟩
      replace Y := (Y.goes sd Wd).addT b5
      clear sd Wd b5
      walk_at "lay"
      refine ⟨w, g, c, rfl, Y.dk, fun x6 HH sd Wd b6 => ?_⟩
      replace Y := (Y.goes sd Wd).addT b6
      clear sd Wd b6
      walk_at "lay"
      obtain ⟨ts, hL, hB, hA⟩ : ∃ ts, Ac w g c HH p (.lst ts) ∧ BtL (10 ^ 39) 320000 20 w g HH ts ∧ BtA (10 ^ 39) 70000 20 w g HH ts :=
        ⟨_, Y.ls_ac (List.Mem.head _), (Y.ls_bt (List.Mem.head _)).mono (Nat.le_refl _) (by decide) (by decide), by walk_at "bta"⟩
      have hpp := Y.tp_at (a := pp) (xs := [.str (C hp), .str (C up)]) (by walk_at "mem")
      have Wd := Y.dk
      clear Y
      obtain ⟨ds, td, bd⟩ := hB
      have bL := bd.lst
      refine repr_val4 (d := .list ds) (.lst (sqL_of hL.at_) td.toD) bL.ok (by decide) (Nat.le_trans bL.wt (by decide)) (Nat.le_trans bL.dp (by decide)) ?_
      walk_at "go"
      refine ⟨⟨_, sqL_of hL.at_⟩, ?_⟩
      refine for_it (walk_list (xs := ts)) (fun j σ H4 => ∃ (y7 y8 : Option V), σ = [some (.ref a), some (.ref w), some (.int (0 + i)), some (.ref pq), some (.ref pp), some (.ref p), some (.str (PyData.list ds).shown), y7, y8, none, none] ∧ H4 = HH)
        ⟨_, _, rfl, rfl⟩ (fun j σ H4 _ pz => ?_) (fun j x σ H4 H5 hj pz y => ?_) (fun σ H4 pz => ?_)
      · obtain ⟨_, _, _, rfl⟩ := pz
        exact sqL_of hL.at_
      · obtain ⟨y7, y8, rfl, rfl⟩ := pz
        obtain ⟨rfl, hx⟩ := y
        obtain ⟨d, t, b⟩ := hA x (List.mem_of_getElem? hx)
        have wtd : d.weight ≤ 100000 := Nat.le_trans b.wt (by decide)
        have bS := bd_tab d
        walk_at "go"
        refine ⟨w, g, x, d, rfl, t, wtd, ?_⟩
        walk_at "go"
        refine repr_val4 (th_O (w := w) (g := g) (tabS d)).toD bS.ok (by decide) (Nat.le_trans bS.wt (by decide)) (Nat.le_trans bS.dp (by decide)) ?_
        walk_at "go"
        refine ⟨w, g, x, d, rfl, t, wtd, ?_⟩
        walk_at "go"
        refine repr_val4 (th_O (w := w) (g := g) (tabS d)).toD bS.ok (by decide) (Nat.le_trans bS.wt (by decide)) (Nat.le_trans bS.dp (by decide)) ?_
        walk_at "go"
        refine ifDn (fun c => absurd rfl c) (fun _ => ?_)
        walk_at "go"
        refine ⟨w, g, x, d, rfl, t, wtd, ?_⟩
        walk_at "go"
        refine repr_val4 (th_O (w := w) (g := g) (tabS d)).toD bS.ok (by decide) (Nat.le_trans bS.wt (by decide)) (Nat.le_trans bS.dp (by decide)) ?_
        walk_at "go"
        refine ifDn (fun c => absurd rfl c) (fun _ => ?_)
        exact ⟨_, _, rfl, rfl⟩
      · obtain ⟨y7, y8, rfl, rfl⟩ := pz
        walk_at "go"
        refine repr_val4 (d := .list ds) (.lst (sqL_of hL.at_) td.toD) bL.ok (by decide) (Nat.le_trans bL.wt (by decide)) (Nat.le_trans bL.dp (by decide)) ?_
        walk_at "go"
        refine ifDn (fun c => absurd rfl c) (fun _ => ?_)
        walk_at "go"
        refine ⟨w, g, .ref pp, _, rfl, .tup hpp (.cons (.str _) (.cons (.str _) .nil)), ?_, ?_⟩
        · simp only [PyData.weight, PyData.weightAll]
          have e1 : (C hp).cps.size = hp.length := C_len hp
          have e2 : (C up).cps.size = up.length := C_len up
          omega
        rw [tab_none bhp bup lhp lup.1 lup.2]
        walk_at "go"
        refine repr_val4 (B := 0) (d := .none) (Th.non (w := w) (g := g)).toD (by simp [Ok]) (by decide) (by decide) (by decide) ?_
        walk_at "go"
        refine ifDn (fun c => absurd (by decide +kernel) c) (fun _ => ?_)
        exact ⟨_, _, _, _, _, _, _, rfl, Wd⟩
    · clear W1 s1 hS hl
      obtain ⟨y2, y3, y4, y5, y6, y7, y8, rfl, W3⟩ := px
      have Y : Lz (Dk w g c) (10 ^ 39) w g c H3 H3 [] := Lz.nil dok_w W3
      clear W3
      walk_at "lay"
      obtain ⟨es, hE, iE⟩ : ∃ (es : List V), Ac w g c HH _ (.lst es) ∧ ItA w g HH es toldL :=
        ⟨_, Y.ls_ac (List.Mem.tail _ (List.Mem.tail _ (List.Mem.tail _ (List.Mem.head _)))), by
          simp only [List.cons_append, List.nil_append]
          unfold toldL
          walk_at "ita"⟩
      have hT := Y.ls_ac (List.Mem.head _)
      have hT2 : Ac w g c HH _ (.lst (toldL.map vO)) := hT
      have Wd := Y.dk
      clear Y hT
      have bL := iE.bd.lst
      have bw : toldL.length * 21 ≤ 360000 := by decide
      refine ⟨⟨es, sqL_of hE.at_⟩, fun D nD => ?_⟩
      refine lc_it (walk_list (xs := es)) (fun i H4 => H4 D = some (.lst ((toldL.take i).map vO)) ∧ Same HH H4) ⟨upd_same, same_new nD⟩ (fun i H4 _ p => sqL_of (p.2 _ _ hE.at_)) (fun i x H4 H5 hi p y => ?_) (fun H4 p => ?_)
      · obtain ⟨hD, S⟩ := p
        obtain ⟨rfl, hx⟩ := y
        obtain ⟨o, ho, d, td, wt, e⟩ := iE.get hx
        walk_at "go"
        refine ⟨w, g, x, d, rfl, td.same2 S, wt, ?_⟩
        rw [e]
        refine ⟨_, hD, szl2 (by rw [List.length_map, List.length_take]; have : toldL.length = 26 := rfl; omega), ?_, same_mut S nD⟩
        rw [upd_same, List.take_add_one, ho, List.map_append]
        rfl
      · obtain ⟨hD, S⟩ := p
        rw [iE.len, List.take_length] at hD
        walk_at "go"
        refine repr_val4 (d := .list (toldL.map dO)) (.lst (sqL_of hD) (th_Os (w := w) (g := g) toldL).toD) bL.ok (by decide) (Nat.le_trans bL.wt bw) (Nat.le_trans bL.dp (by decide)) ?_
        walk_at "go"
        refine repr_val4 (d := .list (toldL.map dO)) (.lst (sqL_of (hT2.same S).at_) (th_Os (w := w) (g := g) toldL).toD) bL.ok (by decide) (Nat.le_trans bL.wt bw) (Nat.le_trans bL.dp (by decide)) ?_
        walk_at "go"
        rw [decide_eq_true rfl]
        exact q _
end
theorem all_mk {l : PySem.W.OpenLaw} {w : World} {K : PySem.W.Frag} {h : Heap} {mg : Str → Option Value} {fa : Addr} (X : K.In h) (G : h.Ns mainGlobals mg) (hfa : mg "law" = some (.ref fa))
    {f_is_pair : Addr} {od_is_pair an_is_pair : Option Addr} {sl_is_pair : Array (Option Value)} {oc_is_pair kV_is_pair dc_is_pair pm_is_pair cd_is_pair ct_is_pair : Value}
    {f_table_error : Addr} {od_table_error an_table_error : Option Addr} {sl_table_error : Array (Option Value)} {oc_table_error kV_table_error dc_table_error pm_table_error cd_table_error ct_table_error : Value}
    {f_is_row : Addr} {od_is_row an_is_row : Option Addr} {sl_is_row : Array (Option Value)} {oc_is_row kV_is_row dc_is_row pm_is_row cd_is_row ct_is_row : Value}
    {f_well : Addr} {od_well an_well : Option Addr} {sl_well : Array (Option Value)} {oc_well kV_well dc_well pm_well cd_well ct_well : Value}
    {f_draw : Addr} {od_draw an_draw : Option Addr} {sl_draw : Array (Option Value)} {oc_draw kV_draw dc_draw pm_draw cd_draw ct_draw : Value}
    {f_pick : Addr} {od_pick an_pick : Option Addr} {sl_pick : Array (Option Value)} {oc_pick kV_pick dc_pick pm_pick cd_pick ct_pick : Value}
    {f_length : Addr} {od_length an_length : Option Addr} {sl_length : Array (Option Value)} {oc_length kV_length dc_length pm_length cd_length ct_length : Value}
    {f_word : Addr} {od_word an_word : Option Addr} {sl_word : Array (Option Value)} {oc_word kV_word dc_word pm_word cd_word ct_word : Value}
    {f_is_word : Addr} {od_is_word an_is_word : Option Addr} {sl_is_word : Array (Option Value)} {oc_is_word kV_is_word dc_is_word pm_is_word cd_is_word ct_is_word : Value}
    {f_error : Addr} {od_error an_error : Option Addr} {sl_error : Array (Option Value)} {oc_error kV_error dc_error pm_error cd_error ct_error : Value}
    {f_sign : Addr} {od_sign an_sign : Option Addr} {sl_sign : Array (Option Value)} {oc_sign kV_sign dc_sign pm_sign cd_sign ct_sign : Value}
    {f_marred : Addr} {od_marred an_marred : Option Addr} {sl_marred : Array (Option Value)} {oc_marred kV_marred dc_marred pm_marred cd_marred ct_marred : Value}
    {f_odd : Addr} {od_odd an_odd : Option Addr} {sl_odd : Array (Option Value)} {oc_odd kV_odd dc_odd pm_odd cd_odd ct_odd : Value}
    {f_bent : Addr} {od_bent an_bent : Option Addr} {sl_bent : Array (Option Value)} {oc_bent kV_bent dc_bent pm_bent cd_bent ct_bent : Value}
    {f_law : Addr} {od_law an_law : Option Addr} {sl_law : Array (Option Value)} {oc_law kV_law dc_law pm_law cd_law ct_law : Value}
    (a_is_pair : PySem.W.nsIn K mainGlobals "is_pair" = some (some (.ref f_is_pair)))
    (l_is_pair : K.lookup f_is_pair = some ⟨oc_is_pair, od_is_pair, .func (PySem.W.fnOf "is_pair" "is_pair" (defArgs s_is_pair) (defBody s_is_pair) (defScope s_is_pair) .none kV_is_pair dc_is_pair pm_is_pair an_is_pair cd_is_pair ct_is_pair), sl_is_pair⟩)
    (c_is_pair : PySem.W.codeIn K cd_is_pair "is_pair" = true) (k_is_pair : PySem.W.keepIn K (.ref f_is_pair) = true)
    (a_table_error : PySem.W.nsIn K mainGlobals "table_error" = some (some (.ref f_table_error)))
    (l_table_error : K.lookup f_table_error = some ⟨oc_table_error, od_table_error, .func (PySem.W.fnOf "table_error" "table_error" (defArgs s_table_error) (defBody s_table_error) (defScope s_table_error) .none kV_table_error dc_table_error pm_table_error an_table_error cd_table_error ct_table_error), sl_table_error⟩)
    (c_table_error : PySem.W.codeIn K cd_table_error "table_error" = true) (k_table_error : PySem.W.keepIn K (.ref f_table_error) = true)
    (a_is_row : PySem.W.nsIn K mainGlobals "_is_row" = some (some (.ref f_is_row)))
    (l_is_row : K.lookup f_is_row = some ⟨oc_is_row, od_is_row, .func (PySem.W.fnOf "_is_row" "_is_row" (defArgs s_is_row) (defBody s_is_row) (defScope s_is_row) .none kV_is_row dc_is_row pm_is_row an_is_row cd_is_row ct_is_row), sl_is_row⟩)
    (c_is_row : PySem.W.codeIn K cd_is_row "_is_row" = true) (k_is_row : PySem.W.keepIn K (.ref f_is_row) = true)
    (a_well : PySem.W.nsIn K mainGlobals "_law_well" = some (some (.ref f_well)))
    (l_well : K.lookup f_well = some ⟨oc_well, od_well, .func (PySem.W.fnOf "_law_well" "_law_well" (defArgs s_well) (defBody s_well) (defScope s_well) .none kV_well dc_well pm_well an_well cd_well ct_well), sl_well⟩)
    (c_well : PySem.W.codeIn K cd_well "_law_well" = true) (k_well : PySem.W.keepIn K (.ref f_well) = true)
    (a_draw : PySem.W.nsIn K mainGlobals "_law_draw" = some (some (.ref f_draw)))
    (l_draw : K.lookup f_draw = some ⟨oc_draw, od_draw, .func (PySem.W.fnOf "_law_draw" "_law_draw" (defArgs s_draw) (defBody s_draw) (defScope s_draw) .none kV_draw dc_draw pm_draw an_draw cd_draw ct_draw), sl_draw⟩)
    (c_draw : PySem.W.codeIn K cd_draw "_law_draw" = true) (k_draw : PySem.W.keepIn K (.ref f_draw) = true)
    (a_pick : PySem.W.nsIn K mainGlobals "_law_pick" = some (some (.ref f_pick)))
    (l_pick : K.lookup f_pick = some ⟨oc_pick, od_pick, .func (PySem.W.fnOf "_law_pick" "_law_pick" (defArgs s_pick) (defBody s_pick) (defScope s_pick) .none kV_pick dc_pick pm_pick an_pick cd_pick ct_pick), sl_pick⟩)
    (c_pick : PySem.W.codeIn K cd_pick "_law_pick" = true) (k_pick : PySem.W.keepIn K (.ref f_pick) = true)
    (a_length : PySem.W.nsIn K mainGlobals "_law_length" = some (some (.ref f_length)))
    (l_length : K.lookup f_length = some ⟨oc_length, od_length, .func (PySem.W.fnOf "_law_length" "_law_length" (defArgs s_length) (defBody s_length) (defScope s_length) .none kV_length dc_length pm_length an_length cd_length ct_length), sl_length⟩)
    (c_length : PySem.W.codeIn K cd_length "_law_length" = true) (k_length : PySem.W.keepIn K (.ref f_length) = true)
    (a_word : PySem.W.nsIn K mainGlobals "_law_word" = some (some (.ref f_word)))
    (l_word : K.lookup f_word = some ⟨oc_word, od_word, .func (PySem.W.fnOf "_law_word" "_law_word" (defArgs s_word) (defBody s_word) (defScope s_word) .none kV_word dc_word pm_word an_word cd_word ct_word), sl_word⟩)
    (c_word : PySem.W.codeIn K cd_word "_law_word" = true) (k_word : PySem.W.keepIn K (.ref f_word) = true)
    (a_is_word : PySem.W.nsIn K mainGlobals "_law_is_word" = some (some (.ref f_is_word)))
    (l_is_word : K.lookup f_is_word = some ⟨oc_is_word, od_is_word, .func (PySem.W.fnOf "_law_is_word" "_law_is_word" (defArgs s_is_word) (defBody s_is_word) (defScope s_is_word) .none kV_is_word dc_is_word pm_is_word an_is_word cd_is_word ct_is_word), sl_is_word⟩)
    (c_is_word : PySem.W.codeIn K cd_is_word "_law_is_word" = true) (k_is_word : PySem.W.keepIn K (.ref f_is_word) = true)
    (a_error : PySem.W.nsIn K mainGlobals "_law_error" = some (some (.ref f_error)))
    (l_error : K.lookup f_error = some ⟨oc_error, od_error, .func (PySem.W.fnOf "_law_error" "_law_error" (defArgs s_error) (defBody s_error) (defScope s_error) .none kV_error dc_error pm_error an_error cd_error ct_error), sl_error⟩)
    (c_error : PySem.W.codeIn K cd_error "_law_error" = true) (k_error : PySem.W.keepIn K (.ref f_error) = true)
    (a_sign : PySem.W.nsIn K mainGlobals "_law_sign" = some (some (.ref f_sign)))
    (l_sign : K.lookup f_sign = some ⟨oc_sign, od_sign, .func (PySem.W.fnOf "_law_sign" "_law_sign" (defArgs s_sign) (defBody s_sign) (defScope s_sign) .none kV_sign dc_sign pm_sign an_sign cd_sign ct_sign), sl_sign⟩)
    (c_sign : PySem.W.codeIn K cd_sign "_law_sign" = true) (k_sign : PySem.W.keepIn K (.ref f_sign) = true)
    (a_marred : PySem.W.nsIn K mainGlobals "_law_marred" = some (some (.ref f_marred)))
    (l_marred : K.lookup f_marred = some ⟨oc_marred, od_marred, .func (PySem.W.fnOf "_law_marred" "_law_marred" (defArgs s_marred) (defBody s_marred) (defScope s_marred) .none kV_marred dc_marred pm_marred an_marred cd_marred ct_marred), sl_marred⟩)
    (c_marred : PySem.W.codeIn K cd_marred "_law_marred" = true) (k_marred : PySem.W.keepIn K (.ref f_marred) = true)
    (a_odd : PySem.W.nsIn K mainGlobals "_law_odd" = some (some (.ref f_odd)))
    (l_odd : K.lookup f_odd = some ⟨oc_odd, od_odd, .func (PySem.W.fnOf "_law_odd" "_law_odd" (defArgs s_odd) (defBody s_odd) (defScope s_odd) .none kV_odd dc_odd pm_odd an_odd cd_odd ct_odd), sl_odd⟩)
    (c_odd : PySem.W.codeIn K cd_odd "_law_odd" = true) (k_odd : PySem.W.keepIn K (.ref f_odd) = true)
    (a_bent : PySem.W.nsIn K mainGlobals "_law_bent" = some (some (.ref f_bent)))
    (l_bent : K.lookup f_bent = some ⟨oc_bent, od_bent, .func (PySem.W.fnOf "_law_bent" "_law_bent" (defArgs s_bent) (defBody s_bent) (defScope s_bent) .none kV_bent dc_bent pm_bent an_bent cd_bent ct_bent), sl_bent⟩)
    (c_bent : PySem.W.codeIn K cd_bent "_law_bent" = true) (k_bent : PySem.W.keepIn K (.ref f_bent) = true)
    (a_law : PySem.W.nsIn K mainGlobals "law" = some (some (.ref f_law)))
    (l_law : K.lookup f_law = some ⟨oc_law, od_law, .func (PySem.W.fnOf "law" "law" (defArgs s_law) (defBody s_law) (defScope s_law) .none kV_law dc_law pm_law an_law cd_law ct_law), sl_law⟩)
    (c_law : PySem.W.codeIn K cd_law "law" = true) (k_law : PySem.W.keepIn K (.ref f_law) = true)
    (z_abs : PySem.W.nsIn K mainGlobals "abs" = some none)
    (z_int : PySem.W.nsIn K mainGlobals "int" = some none)
    (z_isinstance : PySem.W.nsIn K mainGlobals "isinstance" = some none)
    (z_len : PySem.W.nsIn K mainGlobals "len" = some none)
    (z_list : PySem.W.nsIn K mainGlobals "list" = some none)
    (z_max : PySem.W.nsIn K mainGlobals "max" = some none)
    (z_range : PySem.W.nsIn K mainGlobals "range" = some none)
    (z_repr : PySem.W.nsIn K mainGlobals "repr" = some none)
    (z_str : PySem.W.nsIn K mainGlobals "str" = some none)
    (z_sum : PySem.W.nsIn K mainGlobals "sum" = some none)
    (z_tuple : PySem.W.nsIn K mainGlobals "tuple" = some none)
    {t_MAX_HEAD : Tok} (m_MAX_HEAD : PySem.W.nsIn K mainGlobals "MAX_HEAD" = some (some (.int 5000 t_MAX_HEAD)))
    {t_MAX_TURN : Tok} (m_MAX_TURN : PySem.W.nsIn K mainGlobals "MAX_TURN" = some (some (.int 5000 t_MAX_TURN)))
    : ∃ fd : FuncData, (∀ (s : Shared) (v : Value), BindsTo s fd ⟨[v], []⟩ [("_law_script", v)]) ∧ ∀ base : Heap, K.In base → base.Ns mainGlobals mg → HasSys base → FnG l.prog w K mg base 6 fa fd ["_law_script"] (spLaw K) := by
  have e := hfa.symm.trans (PySem.W.mg_of X G a_law)
  cases e
  let T : Tp K mg := {
    a_is_pair := f_is_pair, d_is_pair := _, F_is_pair := fun_mk (st := s_is_pair) l_is_pair c_is_pair k_is_pair, g_is_pair := PySem.W.mg_of X G a_is_pair,
    a_table_error := f_table_error, d_table_error := _, F_table_error := fun_mk (st := s_table_error) l_table_error c_table_error k_table_error, g_table_error := PySem.W.mg_of X G a_table_error,
    a_is_row := f_is_row, d_is_row := _, F_is_row := fun_mk (st := s_is_row) l_is_row c_is_row k_is_row, g_is_row := PySem.W.mg_of X G a_is_row,
    a_well := f_well, d_well := _, F_well := fun_mk (st := s_well) l_well c_well k_well, g_well := PySem.W.mg_of X G a_well,
    a_draw := f_draw, d_draw := _, F_draw := fun_mk (st := s_draw) l_draw c_draw k_draw, g_draw := PySem.W.mg_of X G a_draw,
    a_pick := f_pick, d_pick := _, F_pick := fun_mk (st := s_pick) l_pick c_pick k_pick, g_pick := PySem.W.mg_of X G a_pick,
    a_length := f_length, d_length := _, F_length := fun_mk (st := s_length) l_length c_length k_length, g_length := PySem.W.mg_of X G a_length,
    a_word := f_word, d_word := _, F_word := fun_mk (st := s_word) l_word c_word k_word, g_word := PySem.W.mg_of X G a_word,
    a_is_word := f_is_word, d_is_word := _, F_is_word := fun_mk (st := s_is_word) l_is_word c_is_word k_is_word, g_is_word := PySem.W.mg_of X G a_is_word,
    a_error := f_error, d_error := _, F_error := fun_mk (st := s_error) l_error c_error k_error, g_error := PySem.W.mg_of X G a_error,
    a_sign := f_sign, d_sign := _, F_sign := fun_mk (st := s_sign) l_sign c_sign k_sign, g_sign := PySem.W.mg_of X G a_sign,
    a_marred := f_marred, d_marred := _, F_marred := fun_mk (st := s_marred) l_marred c_marred k_marred, g_marred := PySem.W.mg_of X G a_marred,
    a_odd := f_odd, d_odd := _, F_odd := fun_mk (st := s_odd) l_odd c_odd k_odd, g_odd := PySem.W.mg_of X G a_odd,
    a_bent := f_bent, d_bent := _, F_bent := fun_mk (st := s_bent) l_bent c_bent k_bent, g_bent := PySem.W.mg_of X G a_bent,
    a_law := fa, d_law := _, F_law := fun_mk (st := s_law) l_law c_law k_law, g_law := PySem.W.mg_of X G a_law,
    n_abs := PySem.W.mg_none_of X G z_abs,
    n_int := PySem.W.mg_none_of X G z_int,
    n_isinstance := PySem.W.mg_none_of X G z_isinstance,
    n_len := PySem.W.mg_none_of X G z_len,
    n_list := PySem.W.mg_none_of X G z_list,
    n_max := PySem.W.mg_none_of X G z_max,
    n_range := PySem.W.mg_none_of X G z_range,
    n_repr := PySem.W.mg_none_of X G z_repr,
    n_str := PySem.W.mg_none_of X G z_str,
    n_sum := PySem.W.mg_none_of X G z_sum,
    n_tuple := PySem.W.mg_none_of X G z_tuple,
    k_MAX_HEAD := t_MAX_HEAD, m_MAX_HEAD := PySem.W.mg_of X G m_MAX_HEAD,
    k_MAX_TURN := t_MAX_TURN, m_MAX_TURN := PySem.W.mg_of X G m_MAX_TURN }
  exact ⟨T.d_law, fun s v => .of_eq rfl, fun base _ _ hsy => ok_law T hsy⟩
end G01
open PySem PySem.W PyProof.Rows
set_option maxHeartbeats 0 in
theorem PySem.Challenge.cw_leastmakers_k01_what_is_a_table_holds : PySem.Challenge.rw_leastmakers_k01_what_is_a_table.Holds := by
  w_on; o_law; k_head; (case hw => w_witness2)
  k_fill
  refine G1.walkGS (l := PySem.Challenge.rw_leastmakers_k01_what_is_a_table) (n := 63) (k := 6) (x := "_law_script") (sp := fun K => G01.spLaw K) (by decide +kernel) rfl (by decide) rfl ⟨rfl, by decide, by decide⟩ (fun w h Y => PySem.W.kIn_of Y) ?F (fun K H a ns hl _ hS => ⟨a, ns, rfl, hS, hl, fun _ => rfl⟩)
  case F =>
    intro w mg fa h KX G hmg
    refine' G01.all_mk KX G hmg ?a_is_pair ?l_is_pair ?c_is_pair ?k_is_pair ?a_table_error ?l_table_error ?c_table_error ?k_table_error ?a_is_row ?l_is_row ?c_is_row ?k_is_row ?a_well ?l_well ?c_well ?k_well ?a_draw ?l_draw ?c_draw ?k_draw ?a_pick ?l_pick ?c_pick ?k_pick ?a_length ?l_length ?c_length ?k_length ?a_word ?l_word ?c_word ?k_word ?a_is_word ?l_is_word ?c_is_word ?k_is_word ?a_error ?l_error ?c_error ?k_error ?a_sign ?l_sign ?c_sign ?k_sign ?a_marred ?l_marred ?c_marred ?k_marred ?a_odd ?l_odd ?c_odd ?k_odd ?a_bent ?l_bent ?c_bent ?k_bent ?a_law ?l_law ?c_law ?k_law ?z_abs ?z_int ?z_isinstance ?z_len ?z_list ?z_max ?z_range ?z_repr ?z_str ?z_sum ?z_tuple ?m_MAX_HEAD ?m_MAX_TURN
    (case a_is_pair => k_is); (case l_is_pair => k_is); (case c_is_pair => k_is); (case k_is_pair => k_is); (case a_table_error => k_is); (case l_table_error => k_is)
    (case c_table_error => k_is); (case k_table_error => k_is); (case a_is_row => k_is); (case l_is_row => k_is); (case c_is_row => k_is); (case k_is_row => k_is)
    (case a_well => k_is); (case l_well => k_is); (case c_well => k_is); (case k_well => k_is); (case a_draw => k_is); (case l_draw => k_is)
    (case c_draw => k_is); (case k_draw => k_is); (case a_pick => k_is); (case l_pick => k_is); (case c_pick => k_is); (case k_pick => k_is)
    (case a_length => k_is); (case l_length => k_is); (case c_length => k_is); (case k_length => k_is); (case a_word => k_is); (case l_word => k_is)
    (case c_word => k_is); (case k_word => k_is); (case a_is_word => k_is); (case l_is_word => k_is); (case c_is_word => k_is); (case k_is_word => k_is)
    (case a_error => k_is); (case l_error => k_is); (case c_error => k_is); (case k_error => k_is); (case a_sign => k_is); (case l_sign => k_is)
    (case c_sign => k_is); (case k_sign => k_is); (case a_marred => k_is); (case l_marred => k_is); (case c_marred => k_is); (case k_marred => k_is)
    (case a_odd => k_is); (case l_odd => k_is); (case c_odd => k_is); (case k_odd => k_is); (case a_bent => k_is); (case l_bent => k_is)
    (case c_bent => k_is); (case k_bent => k_is); (case a_law => k_is); (case l_law => k_is); (case c_law => k_is); (case k_law => k_is)
    (case z_abs => k_is); (case z_int => k_is); (case z_isinstance => k_is); (case z_len => k_is); (case z_list => k_is); (case z_max => k_is)
    (case z_range => k_is); (case z_repr => k_is); (case z_str => k_is); (case z_sum => k_is); (case z_tuple => k_is); (case m_MAX_HEAD => k_is)
    (case m_MAX_TURN => k_is)
