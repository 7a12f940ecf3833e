import PyProof.Rows.All
import Wide.All
import OpenK.AllK
import Wide.FinOn
import HandS.ForMost
import HandS.StrMore
import HandS.Wide
import HandS.IsInst
import HandS.Codes
import HandS.Conv
import HandS.Style
import HandS.Ends
import KE.GoesNew
import HandS.ForDict
import HandS.TupAny
import KE.GoesZip
import HandS.Zip
import HandS.Walk
import HandS.TupMul
import HandS.TupLen
import HandS.More
import PySem.Challenge.RW_leastmakers_k69_rounds_and_reads
set_option Elab.async false
set_option linter.all false
set_option maxRecDepth 100000
set_option maxHeartbeats 8000000
/-! repr of whole data, and promises of defs that call it -/
namespace G1
open PySem PySem.Spec PyProof.Rows L2

/-- a promise of a def where no repr is under way around the call -/
structure FnG (P : Program) (w : World) (K : PySem.W.Frag) (mg : Str → Option Value) (base : Heap) (k : Nat) (f : Addr) (fd : FuncData) (ps : List Str) (sp : Sp) : Prop where
  cnt : ∀ vs H Q E, sp vs H Q E → vs.length = ps.length
  go : ∀ (A : Around) (ou : List Env) (s : Shared) (H : Hp) (ar : Args) (us : List Value) (vs : List V) (Q : VK) (E : XK), A.guards = some [] → Room k A →
    Env0 P w K mg base A ou s H → BindsTo s fd ar (ps.zip us) → Vals vs us → sp vs H Q E →
    codeAny (model P w) A (.call (.ref f) ar) (CR CX0 ou P w H s Q E) s

theorem FnG.of {P : Program} {w : World} {K : PySem.W.Frag} {mg : Str → Option Value} {base : Heap} {k : Nat} {f : Addr} {fd : FuncData} {ps : List Str} {sp : Sp}
    (F : FnOk P w K mg base CX0 k f fd ps sp) : FnG P w K mg base k f fd ps sp :=
  ⟨F.len, fun A ou s H ar us vs Q E _ hr he hb hv hs => F.run A ou s H ar us vs Q E hr he hb hv hs⟩

section
variable {P : Program} {w : World} {K : PySem.W.Frag} {mg : Str → Option Value} {base : Heap}
theorem fnG_of {x qual : Str} {st : Stmt} {f : Addr} {fd : FuncData} {N ps : List Str} {k : Nat} {sp : Sp} (F : Fun K x qual st f fd) (S : FnScope N ps (defScope st))
    (cnt : ∀ vs H Q E, sp vs H Q E → vs.length = ps.length)
    (body : ∀ (cdv : Value) (A : Around) (ou : List Env) (s : Shared) (H : Hp) (vs : List V) (Q : VK) (E : XK), A.guards = some [] →
      Room k (A.deeper (envOfC qual (defScope st) s.heap.objs.size f cdv)) → sp vs H Q E →
      ∃ t, PSs (cxOf CX0 P w K mg base N qual (defScope st) f cdv A ou s H E).nox (defBody st) t ∧
        t { nx := fun _ H' => Q .non H', rt := Q } (start N vs) H) :
    FnG P w K mg base (k + 1) f fd ps sp := by
  obtain ⟨oc, od, kV, doc, pm, an, cdv, ct, osl, rfl, lk, hcd⟩ := F.ex
  refine ⟨cnt, fun A ou s H ar us vs Q E hgd hr e0 hb rv hsp => ?_⟩
  have inK : K.In s.heap := e0.mod.kin.keeps fun b o e => (e0.bs b o e).1
  have hlim : s.heap.NoLimit := e0.mod.nolimit.keeps fun b o e => (e0.bs b o e).1
  have kinds : ∀ y ∈ ps.zip us, (defScope st).names.lookup y.1 = some .local ∨
      ((defScope st).names.lookup y.1 = some .cell ∧ ((cellsFrom (s.heap.objs.size + 1) (defScope st).names []).lookup y.1).isSome = true) := by
    intro y hy
    cases S.par y.1 (List.of_mem_zip hy).1 with
    | inl q => exact Or.inl q
    | inr q => exact Or.inr ⟨q, PySem.W.cellsFrom_some _ _ _ (Or.inl q)⟩
  refine codeAny_call_function hr.depth (inK _ _ lk) rfl S.co S.gen rfl (PySem.W.codeRec_of inK hcd) (hb _ _ _ _ ?_)
  refine wpAny_newFunctionEnv_cells S.kind kinds fun env he s1 x => ?_
  subst he
  refine And.intro (hlim.keeps x.toInCall.keep) (codeAny_func ?_)
  obtain ⟨t, ht0, hq⟩ := body cdv A ou s H vs Q E hgd (hr.deeper _) hsp
  have ht := ht0.nox
  have J0 := inv_start (CX := CX0) S hr.hd e0 (cnt _ _ _ _ hsp) rv x (E := E)
  refine wpAny_mono (ht.run [] s1 (start N vs) H _ J0 hq) ?_ (fun e s' hs => hs)
  intro fl s' hs
  cases fl with
  | ret u =>
    obtain ⟨v, σ', H', J, r1, q⟩ := hs
    exact ⟨v, H', J.os, J.bare, J.base, J.hok, r1, q⟩
  | next =>
    obtain ⟨σ', H', J, q⟩ := hs
    exact ⟨V.non, H', J.os, J.bare, J.base, J.hok, rfl, q⟩
  | brk => exact hs.choose_spec.choose_spec.2.elim
  | cont => exact hs.choose_spec.choose_spec.2.elim
end

section
variable {X : Cx} {k : Nat} {f : Addr} {fd : FuncData} {ps ks : List Str} {sp : Sp} {dvs : List V} {ds : List Value} {E : XK} {x : Str} {p pos : Pos} {e : Expr} {es : List Expr} {t : TA}
/-- f(e, ..) of such a def -/
theorem pe_callGd (F : FnG X.prog X.w X.K X.mg X.base k f fd ps sp) (hgd : X.A.guards = some []) (hr : Room k X.A) (hg : Gl X x) (hm : X.mg x = some (.ref f)) (hk : PySem.W.keepIn X.K (.ref f) = true)
    (hb : Binds X.K fd ps []) (ha : PA X (e :: es) t) (hdb : (x == ("__debug__" : Str)) = false := by decide)
    (he : starEach (e :: es) X.env = (false, eval e X.env) :: starEach es X.env := by rfl) (hpl : (backTo pos (starEach es X.env)).any (·.1) = false := by rfl) :
    PE X (.Call (.Name x p) (e :: es) [] pos) (fun σ H Q => t σ H fun vs H1 => sp vs H1 Q E) := by
  refine ⟨fun pins s σ H Q I h => wpAny_Call_Name_kw (ld_glob I hg hm ?_ hdb)⟩
  refine PySem.W.callWith_K (h₀ := X.base) I.ok.mod.kin hk (thn (ha.run pos pins s σ H _ I h) ?_) he hpl
  intro us s1 hus
  obtain ⟨vs, H1, I1, r, q⟩ := hus
  refine ⟨I1.kIn, ?_⟩
  have hl : (us ++ []).length = ps.length := by rw [List.append_nil, ← r.length]; exact F.cnt _ _ _ _ q
  have hbt := hb s1 us I1.kIn hl
  rw [List.append_nil] at hbt
  refine wpAny_call (codeAny_mono (F.go X.A X.stack s1 H1 ⟨us, []⟩ us vs Q E hgd hr I1.env0 hbt r q) ?_)
  intro rr s' hq
  cases rr with
  | error ev => exact hq.elim
  | ok fl =>
    cases fl with
    | ret u => exact I1.after hq
    | next => exact hq.elim
    | brk => exact hq.elim
    | cont => exact hq.elim

/-- repr of a list or a tuple of plain data -/
def rRepr (K : PySem.W.Frag) : List V → Hp → VK → Prop := fun xs H Q => ∃ (a : Addr) (d : PyData), xs = [.ref a] ∧ Dp K H (.ref a) d ∧ d.showable = true ∧ d.hasDict = false ∧ d.depth ≤ 60 ∧
  d.shown.length ≤ sizeLine ∧ Q (.str d.shown) H
theorem call_reprD (hgd : X.A.guards = some []) (hu : X.A.units + 64 < cLine) : CallR X (.builtin "repr") (rRepr X.K) := by
  intro pins s σ H xs us Q I r h
  obtain ⟨a, d, rfl, hd, hs, hnd, hdp, hz, q⟩ := h
  obtain ⟨u, rfl, ru⟩ := vals1 r
  obtain rfl : u = Value.ref a := ru
  obtain ⟨as, r1⟩ := Dp.reads I d (.ref a) (.ref a) hd rfl
  refine repr_of_reads' r1 hs (fun z => by rw [hnd] at z; cases z) hgd (by omega) (fun _ _ e => e) (fun h' tu tk hk => ?_) hz
  refine ⟨.str d.shown, H, ?_, ⟨tu, rfl⟩, q⟩
  exact I.kept (t' := tk) hk
/-- x * n of a text -/
def rMulS : R2 := fun x y H Q => ∃ (z : Str) (n : Int), x = .str z ∧ y = .int n ∧ 0 ≤ n ∧ n < 2 ^ 30 ∧ z.length * n.toNat ≤ 1000000 ∧ Q (.str (Txt.mul z n)) H
end
end G1
/-! the end of a row whose law calls repr -/
namespace G1
open PySem PySem.Spec PyProof.Rows L2

theorem enterG {P : Program} {w : World} {K : PySem.W.Frag} {mg mb : Str → Option Value} {k : Nat} {fa a : Addr} {fd : FuncData} {x : Str} {sp : Sp} {s₁ : Shared} {vs : List Value} {ns : List Int}
    (inK : K.In s₁.heap) (hns : s₁.heap.Ns mainGlobals mg) (hbn : s₁.heap.Ns builtinsNs mb) (hbb : ∀ x : Str, x ≠ "__name__" → mb x = bootBuiltins x) (hlim : s₁.heap.NoLimit) (hg0 : s₁.gens = #[])
    (ha : s₁.heap.get? a = some { cls := .type "list", data := .seq vs.toArray }) (hi : IntsAre vs ns) (hl : ns.length ≤ sizeLine) (hr : Room k callerA)
    (F : ∀ base : Heap, K.In base → base.Ns mainGlobals mg → FnG P w K mg base k fa fd [x] sp)
    (hbind : ∀ (s : Shared) (u : Value), BindsTo s fd ⟨[u], []⟩ [(x, u)])
    (hsp : ∀ H : Hp, Only H → SqL K H a (ns.map V.int) → sp [.ref a] H (fun v _ => v = .bl true) fun _ _ _ => False) :
    codeAny (model P w) callerA (.call (.ref fa) ⟨[.ref a], []⟩)
      (fun r s' => r = .ok (.ret (.bool true)) ∧ OldK s₁.heap s'.heap ∧ s'.os = s₁.os ∧ AllBare s'.gens) s₁ := by
  have rv := vals_ints hi
  have lv := hi.length
  suffices core : ∀ H : Hp, Only H → SqL K H a (ns.map V.int) → HOk P w H s₁.heap → (∀ b, H b ≠ none → b = a ∧ K.lookup a = none) →
      codeAny (model P w) callerA (.call (.ref fa) ⟨[.ref a], []⟩)
        (fun r s' => r = .ok (.ret (.bool true)) ∧ OldK s₁.heap s'.heap ∧ s'.os = s₁.os ∧ AllBare s'.gens) s₁ by
    by_cases hk : K.lookup a = none
    · refine core (fun b => if b = a then some (.frz { cls := .type "list", data := .seq vs.toArray } (.lst (ns.map V.int))) else none) ?_ (Or.inl (Or.inr ⟨_, if_pos rfl⟩)) ?_ ?_
      · intro b
        by_cases hb : b = a
        · exact Or.inr ⟨_, _, if_pos hb⟩
        · exact Or.inl (if_neg hb)
      · intro b u z
        dsimp only at z
        by_cases hb : b = a
        · rw [if_pos hb] at z
          cases z
          subst hb
          exact ⟨ha, by rw [List.length_map]; exact hl, vs, _, rv, ha⟩
        · rw [if_neg hb] at z
          cases z
      · intro b z
        by_cases hb : b = a
        · exact ⟨hb, hk⟩
        · exact absurd (if_neg hb) z
    · obtain ⟨o, ho⟩ := Option.ne_none_iff_exists'.mp hk
      have e := inK a o ho
      rw [ha] at e
      cases e
      exact core (fun _ => none) (fun _ => Or.inl rfl) (Or.inr ⟨_, vs.toArray, _, ho, rfl, rfl, rfl, by rw [List.size_toArray, lv]; exact hl, by simpa using rv⟩)
        (fun b u z => by cases z) (fun b z => absurd rfl z)
  intro H hO hS hok hA
  have untr : ∀ {b : Addr} {o : Obj} {es : Array DictEntry} {ep : Nat}, s₁.heap.get? b = some o → o.data = .dict es ep → H b = none := by
    intro b o es ep e d
    by_cases q : H b = none
    · exact q
    · obtain ⟨rfl, _⟩ := hA b q
      rw [ha] at e
      cases e
      exact nomatch d
  have tohid : ∀ {b : Addr} {m : Str → Option Value}, s₁.heap.Ns b m → (hidT s₁.heap H).Ns b m := by
    rintro b m ⟨o, es, ep, e, d, r⟩
    exact ⟨o, es, ep, hidT_get e (untr e d), d, r⟩
  have hKb : K.In (hidT s₁.heap H) := by
    intro b o e
    refine hidT_get (inK b o e) ?_
    by_cases q : H b = none
    · exact q
    · obtain ⟨rfl, z⟩ := hA b q
      rw [z] at e
      cases e
  obtain ⟨mc, l1, l2⟩ := hlim
  have hM : Mod K mg (hidT s₁.heap H) := ⟨hKb, tohid hns, ⟨mb, tohid hbn, hbb⟩, ⟨mc, tohid l1, l2⟩⟩
  have e0 : Env0 P w K mg (hidT s₁.heap H) callerA [] s₁ H :=
    ⟨rfl, hM, fun b o e => of_hidT e, Nat.le_of_eq (hidT_size _ _), trivial, fun b hb => (List.not_mem_nil hb).elim, hok, .of_eq hg0⟩
  refine codeAny_mono ((F _ hKb (tohid hns)).go callerA [] s₁ H ⟨[.ref a], []⟩ [.ref a] [.ref a] _ _ rfl hr e0 (hbind s₁ (.ref a)) (.cons rfl .nil) (hsp H hO hS)) ?_
  intro r s' h
  cases r with
  | error e => exact h.elim
  | ok fl =>
    cases fl with
    | next => exact h.elim
    | brk => exact h.elim
    | cont => exact h.elim
    | ret u =>
      obtain ⟨v, H', os, bare, un, hok', r', q⟩ := h
      subst q
      obtain rfl : u = Value.bool true := r'
      refine ⟨rfl, OldK.of_keep (fun b o e => ?_), os, bare⟩
      rcases hO b with z | ⟨ob, xs, z⟩
      · exact un.keep b o e z (fun y => (List.not_mem_nil y).elim) List.not_mem_nil
      · obtain ⟨e1, _⟩ := hok b _ z
        obtain ⟨e2, _⟩ := hok' b _ (un.frzs b ob _ z)
        rw [e] at e1
        cases e1
        exact e2

theorem walkG {l : PySem.W.OpenLaw} {n k : Nat} {q : Program} {loose : List Str} {XP : (Str → Option Value) → Heap → Prop} {YP : World → Heap → Prop} {d : DefRec} {K : Params → PySem.W.Frag} {sp : PySem.W.Frag → Sp} {x : Str}
    (hn : l.most = some n) (hn2 : n ≤ sizeLine) (hdf : d.params.defaults = []) (hr : Room k callerA)
    (hY : ∀ (w : World) (h : Heap), YP w h → (K w.params).In h)
    (F : ∀ (w : World) (mg : Str → Option Value) (fa : Addr) (h : Heap), (K w.params).In h → h.Ns mainGlobals mg → mg d.name = some (.ref fa) →
      ∃ fd : FuncData, (∀ (s : Shared) (u : Value), BindsTo s fd ⟨[u], []⟩ [(x, u)]) ∧
        ∀ base : Heap, (K w.params).In base → base.Ns mainGlobals mg → FnG l.prog w (K w.params) mg base k fa fd [x] (sp (K w.params)))
    (hsp : ∀ (K : PySem.W.Frag) (H : Hp) (a : Addr) (ns : List Int), ns.length ≤ n → Only H → SqL K H a (ns.map V.int) → sp K [.ref a] H (fun v _ => v = .bl true) fun _ _ _ => False) :
    PySem.W.WalkO q loose XP YP l.row.toRowW d [] (fun f vs => PySem.call f vs) := by
  refine Att.attach_call hn hdf ?_
  intro w s₀ s₁ mg mb fa o pm cd doc a vs ns G Y ho hd hcd hmg hobj hints hlen hg0
  have inK := hY w _ Y
  obtain ⟨fd, hb, hF⟩ := F w mg fa _ inK G.T.g hmg
  exact enterG inK G.T.g G.T.b G.T.builtins G.T.nolimit hg0 hobj hints (Nat.le_trans hlen hn2) hr hF hb (fun H hO hS => hsp _ H a ns hlen hO hS)
end G1
/-! texts of the signs 0 and 1, as lists of bools -/
namespace G1
open PySem PySem.Spec PyProof.Rows L2

def cB (b : Bool) : Nat := if b then 49 else 48
def B (l : List Bool) : Str := SX.S (l.map cB)
theorem cB_inj {a b : Bool} (h : cB a = cB b) : a = b := by
  cases a <;> cases b <;> first | rfl | (exact absurd h (by decide))
theorem map_cB_inj : ∀ {l m : List Bool}, l.map cB = m.map cB → l = m
  | [], [], _ => rfl
  | [], _ :: _, h => by cases h
  | _ :: _, [], h => by cases h
  | a :: l, b :: m, h => by
    rw [List.map_cons, List.map_cons] at h
    injection h with h1 h2
    rw [cB_inj h1, map_cB_inj h2]
theorem B_inj {l m : List Bool} (h : B l = B m) : l = m := map_cB_inj (SX.S_inj h)
theorem B_dec (l m : List Bool) : decide (V.str (B l) = V.str (B m)) = decide (l = m) := by
  by_cases h : l = m
  · rw [h, decide_eq_true rfl, decide_eq_true rfl]
  · rw [decide_eq_false h, decide_eq_false fun e => h (B_inj (V.str.inj e))]
theorem B_len (l : List Bool) : (B l).length = l.length := by
  unfold B
  rw [SX.S_len, List.length_map]
theorem B_cps (l : List Bool) : (B l).cps.toList = l.map cB := rfl
theorem B_app (l m : List Bool) : B l ++ B m = B (l ++ m) := by
  unfold B
  rw [SX.S_cat, List.map_append]
theorem B_nil : ("" : Str) = B [] := by decide +kernel
theorem B_0 : ("0" : Str) = B [false] := by decide +kernel
theorem B_1 : ("1" : Str) = B [true] := by decide +kernel
theorem B_one (b : Bool) : (⟨#[cB b]⟩ : Str) = B [b] := by cases b <;> decide +kernel
theorem B_str0 : (Str.ofString (toString (0 : Int))) = B [false] := by decide +kernel
theorem B_str1 : (Str.ofString (toString (1 : Int))) = B [true] := by decide +kernel
theorem B_str (i : Int) (h0 : 0 ≤ i) (h2 : i < 2) : (Str.ofString (toString i)) = B [decide (i = 1)] := by
  have h : i = 0 ∨ i = 1 := by omega
  rcases h with rfl | rfl
  · exact B_str0
  · exact B_str1

/-! ### slices -/
theorem B_cut (l : List Bool) (lo hi : Option Int) : cutS (B l) lo hi = B ((l.drop (HT.sIx l.length 0 lo)).take (HT.sIx l.length l.length hi - HT.sIx l.length 0 lo)) := by
  unfold cutS B
  rw [SX.S_len, List.length_map, ← List.map_drop, ← List.map_take]
theorem sIx_of (n d : Nat) {i : Int} (h : 0 ≤ i) : HT.sIx n d (some i) = min i.toNat n := by
  show (if i < 0 then (i + (n : Int)).toNat else min i.toNat n) = _
  rw [if_neg (by omega)]
theorem B_to (l : List Bool) {j : Int} (h : 0 ≤ j) : cutS (B l) none (some j) = B (l.take j.toNat) := by
  rw [B_cut, sIx_of _ _ h]
  show B ((l.drop 0).take (min j.toNat l.length - 0)) = _
  rw [List.drop_zero, Nat.sub_zero, ← List.take_eq_take_min]
theorem B_from (l : List Bool) {i : Int} (h : 0 ≤ i) : cutS (B l) (some i) none = B (l.drop i.toNat) := by
  rw [B_cut, sIx_of _ _ h]
  show B ((l.drop (min i.toNat l.length)).take (l.length - min i.toNat l.length)) = _
  rw [List.take_of_length_le (by rw [List.length_drop]; omega)]
  by_cases hi : i.toNat ≤ l.length
  · rw [Nat.min_eq_left hi]
  · rw [Nat.min_eq_right (by omega), List.drop_length, List.drop_of_length_le (by omega)]
theorem B_mid (l : List Bool) {i j : Int} (h : 0 ≤ i) (hj : 0 ≤ j) : cutS (B l) (some i) (some j) = B ((l.take j.toNat).drop i.toNat) := by
  rw [B_cut, sIx_of _ _ h, sIx_of _ _ hj]
  congr 1
  apply List.ext_getElem?
  intro k
  rw [List.getElem?_take, List.getElem?_drop, List.getElem?_drop, List.getElem?_take]
  by_cases hi : i.toNat ≤ l.length
  · rw [Nat.min_eq_left hi]
    by_cases hj2 : j.toNat ≤ l.length
    · rw [Nat.min_eq_left hj2]
      by_cases h3 : k < j.toNat - i.toNat
      · rw [if_pos h3, if_pos (by omega)]
      · rw [if_neg h3, if_neg (by omega)]
    · rw [Nat.min_eq_right (by omega)]
      by_cases h3 : k < l.length - i.toNat
      · rw [if_pos h3, if_pos (by omega)]
      · rw [if_neg h3]
        split
        · exact (List.getElem?_eq_none (by omega)).symm
        · rfl
  · have hm : min i.toNat l.length = l.length := Nat.min_eq_right (Nat.le_of_lt (Nat.lt_of_not_le hi))
    rw [hm, List.getElem?_eq_none (by omega), List.getElem?_eq_none (by omega)]
    split <;> split <;> rfl

/-! ### signs -/
theorem B_at (l : List Bool) {i : Int} {k : Nat} {b : Bool} (hi : i = (k : Int)) (h : l[k]? = some b) : atI (B l).cps.toList i = some (cB b) := by
  subst hi
  refine atI_nat ?_
  rw [B_cps, List.getElem?_map, h]
  rfl
theorem B_atNeg (l : List Bool) {i : Int} {k : Nat} {b : Bool} (hi : i = -1 - (k : Int)) (hk : k < l.length) (h : l[l.length - 1 - k]? = some b) : atI (B l).cps.toList i = some (cB b) := by
  unfold atI ixN
  have e1 : (B l).cps.toList.length = l.length := by rw [B_cps, List.length_map]
  rw [e1, if_neg (by omega), if_pos (by omega)]
  show (B l).cps.toList[(i + (l.length : Int)).toNat]? = _
  rw [show (i + (l.length : Int)).toNat = l.length - 1 - k by omega, B_cps, List.getElem?_map, h]
  rfl

/-! ### many times -/
def rep (n : Nat) (l : List Bool) : List Bool := (List.replicate n l).flatten
theorem rep_zero (l : List Bool) : rep 0 l = [] := rfl
theorem rep_succ (n : Nat) (l : List Bool) : rep (n + 1) l = l ++ rep n l := by
  unfold rep
  rw [List.replicate_succ, List.flatten_cons]
theorem rep_length (n : Nat) (l : List Bool) : (rep n l).length = n * l.length := by
  induction n with
  | zero => rw [rep_zero, Nat.zero_mul]; rfl
  | succ n ih => rw [rep_succ, List.length_append, ih, Nat.succ_mul, Nat.add_comm]
theorem rep_get (n : Nat) (l : List Bool) (i : Nat) (h : i < n * l.length) : (rep n l)[i]? = l[i % l.length]? := by
  induction n generalizing i with
  | zero => rw [Nat.zero_mul] at h; omega
  | succ n ih =>
    rw [rep_succ]
    by_cases hi : i < l.length
    · rw [List.getElem?_append_left hi, Nat.mod_eq_of_lt hi]
    · have h1 : l.length ≤ i := by omega
      rw [List.getElem?_append_right h1, ih (i - l.length) (by rw [Nat.succ_mul] at h; omega), ← Nat.mod_eq_sub_mod h1]
theorem foldl_app (c : Array Nat) : ∀ (n : Nat) (acc : Array Nat), ((List.replicate n c).foldl (· ++ ·) acc).toList = acc.toList ++ (List.replicate n c.toList).flatten
  | 0, acc => by simp
  | n + 1, acc => by
    rw [List.replicate_succ, List.foldl_cons, foldl_app c n, List.replicate_succ, List.flatten_cons, Array.toList_append, List.append_assoc]
theorem map_rep (n : Nat) (l : List Bool) : (rep n l).map cB = (List.replicate n (l.map cB)).flatten := by
  induction n with
  | zero => rfl
  | succ n ih => rw [rep_succ, List.map_append, ih, List.replicate_succ, List.flatten_cons]
theorem B_mul (l : List Bool) {n : Int} (h : 0 ≤ n) : Txt.mul (B l) n = B (rep n.toNat l) := by
  unfold Txt.mul
  by_cases h1 : n < 1
  · rw [if_pos h1, show n.toNat = 0 by omega, rep_zero]
    rfl
  · rw [if_neg h1]
    by_cases h2 : (n == 1 || (B l).length == 0) = true
    · rw [if_pos h2]
      rw [Bool.or_eq_true, beq_iff_eq, beq_iff_eq, B_len] at h2
      rcases h2 with h2 | h2
      · subst h2
        show B l = B (rep 1 l)
        rw [rep_succ, rep_zero, List.append_nil]
      · rw [List.length_eq_zero_iff] at h2
        subst h2
        congr 1
        have := rep_length n.toNat []
        rw [List.length_nil, Nat.mul_zero, List.length_eq_zero_iff] at this
        exact this.symm
    · rw [if_neg h2]
      unfold B
      rw [map_rep]
      refine TL.ext_tl ?_
      show (List.foldl (· ++ ·) #[] (List.replicate n.toNat (SX.S (l.map cB)).cps)).toList = _
      rw [foldl_app]
      simp [TL.tl]

/-! ### joined -/
theorem join_nil (ls : List (List Bool)) : Txt.join (B []) (ls.map B) = B ls.flatten := by
  have e : ls.map B = (ls.map (List.map cB)).map SX.S := by rw [List.map_map]; rfl
  rw [e]
  show Txt.join (SX.S []) _ = _
  rw [SX.join_S]
  unfold B
  congr 1
  have key : ∀ ms : List (List Nat), TL.joinL [] ms = ms.flatten := by
    intro ms
    induction ms with
    | nil => rfl
    | cons m ms ih =>
      cases ms with
      | nil => simp [TL.joinL]
      | cons k ks =>
        rw [List.flatten_cons, ← ih]
        simp [TL.joinL]
  rw [key, ← List.map_flatten]
end G1
namespace G1
open PySem PySem.Spec PyProof.Rows L2
section
variable {X : Cx}
theorem tooLong_no {n : Nat} (h : n ≤ 1000000) : Builtin.Str.tooLong n = false := by
  unfold Builtin.Str.tooLong
  rw [decide_eq_false_iff_not]
  exact Nat.not_lt.mpr (Nat.le_trans h (by decide))
theorem op_mulS : OpR X (binaryOp .Mult) rMulS := by
  intro pins s σ H x y v u Q I rx ry h
  obtain ⟨z, n, rfl, rfl, h0, h1, h2, q⟩ := h
  obtain ⟨t, rfl⟩ := rx
  obtain ⟨t2, rfl⟩ := ry
  have hb : z.length = 0 ∨ n.toNat = 0 ∨ (z.length ≤ 1000000) := by
    rcases Nat.eq_zero_or_pos z.length with e | e
    · exact .inl e
    · rcases Nat.eq_zero_or_pos n.toNat with e2 | e2
      · exact .inr (.inl e2)
      · refine .inr (.inr (Nat.le_trans ?_ h2))
        exact Nat.le_mul_of_pos_right _ e2
  refine PySem.SB.mul ⟨?_, fun a b c => ?_, fun a b => tooLong_no h2⟩ fun t' k => ⟨.str (Txt.mul z n), H, I.tok _, ⟨_, rfl⟩, q⟩
  · rw [Bool.or_eq_false_iff]
    exact ⟨decide_eq_false (by omega), decide_eq_false (by omega)⟩
  · rw [Bool.or_eq_false_iff] at b
    have hz : z.length ≠ 0 := by
      have := b.2
      simpa using this
    have hz2 : (z.length : Int) ≤ 1000000 := by omega
    have h3 : (2 ^ 63 - 1 : Int) / n ≥ 1000000 := by
      apply Int.le_ediv_of_mul_le (by omega)
      omega
    omega
end
theorem szM {n : Nat} (h : n ≤ 1000000) : n ≤ sizeLine := Nat.le_trans h (by decide)
end G1
namespace G1
open PySem PySem.Spec PyProof.Rows L2
theorem B_last (l : List Bool) : cutS (B l) (some (-1)) none = B (l.drop (l.length - 1)) := by
  rw [B_cut]
  have e : HT.sIx l.length 0 (some (-1)) = l.length - 1 := by
    show (if (-1 : Int) < 0 then (-1 + (l.length : Int)).toNat else min (-1 : Int).toNat l.length) = _
    rw [if_pos (by decide)]
    omega
  rw [e]
  show B ((l.drop (l.length - 1)).take (l.length - (l.length - 1))) = _
  rw [List.take_of_length_le (by rw [List.length_drop]; omega)]
theorem B_init (l : List Bool) : cutS (B l) none (some (-1)) = B (l.take (l.length - 1)) := by
  rw [B_cut]
  have e : HT.sIx l.length l.length (some (-1)) = l.length - 1 := by
    show (if (-1 : Int) < 0 then (-1 + (l.length : Int)).toNat else min (-1 : Int).toNat l.length) = _
    rw [if_pos (by decide)]
    omega
  rw [e]
  show B ((l.drop 0).take (l.length - 1 - 0)) = _
  rw [List.drop_zero, Nat.sub_zero]
end G1
/-! calls by keywords alone; repr of a truth -/
namespace G1
open PySem PySem.Spec PyProof.Rows L2
section
variable {X : Cx} {CX : CXT} {k : Nat} {f : Addr} {fd : FuncData} {ps ks : List Str} {sp : Sp} {E : XK} {x : Str} {p pos : Pos} {kws : List Keyword} {tk : TA}
variable {g : List Value → List Value → List Value} {gV : List V → List V → List V}
/-- f(k = v, ..) -/
theorem pe_callK0 (F : FnOk X.prog X.w X.K X.mg X.base CX k f fd ps sp) (hr : Room k X.A) (hg : Gl X x) (hm : X.mg x = some (.ref f)) (hk : PySem.W.keepIn X.K (.ref f) = true) (hb : KBinds X.K fd ps ks g gV) (hx : Passes CX X E)
    (hkw : PK X kws tk) (hall : (backToKw pos (keywordEach kws X.env)).all (·.1.isSome) = true := by rfl) (hks : (backToKw pos (keywordEach kws X.env)).filterMap (·.1) = ks := by rfl)
    (hdb : (x == ("__debug__" : Str)) = false := by decide)
    (hpl : ((backTo pos (starEach [] X.env)).any (·.1) || (backToKw pos (keywordEach kws X.env)).any (·.1.isNone)) = false := by rfl) :
    PE X (.Call (.Name x p) [] kws pos) (fun σ H Q => tk σ H fun zs H1 => sp (gV [] zs) H1 Q E) := by
  refine ⟨fun pins s σ H Q I h => wpAny_Call_Name_kw (ld_glob I hg hm ?_ hdb)⟩
  refine PySem.W.callWith_KW0 (h₀ := X.base) I.ok.mod.kin hk hall (thn (hkw.run pos pins s σ H _ I h) ?_) hpl
  intro ws s2 hws
  obtain ⟨zs, H2, I2, rz, q2⟩ := hws
  refine ⟨I2.kIn, ?_⟩
  rw [hks]
  exact run_fnk (us := []) (vs := []) F hr hb hx I2 .nil rz q2
end
/-- two keywords, the second parameter's first -/
def swapW {α : Type} : List α → List α → List α
  | [], a :: b :: _ => [b, a]
  | _, _ => []
theorem kbinds_swap {K : PySem.W.Frag} {fd : FuncData} {p0 p1 : Str}
    (h : ∀ a b : Value, bindArgs fd ⟨[], [(p1, a), (p0, b)]⟩ = pure [(p0, b), (p1, a)]) : KBinds K fd [p0, p1] [p1, p0] swapW swapW := by
  refine ⟨fun s us ws _ hl => ?_, fun {vs us zs ws} r1 r2 => ?_⟩
  · cases us with
    | cons u us => cases hl
    | nil =>
      cases ws with
      | nil => cases hl
      | cons a ws =>
        cases ws with
        | nil => cases hl
        | cons b ws => exact .of_eq (h a b)
  · cases r1 with
    | cons q t => exact .nil
    | nil =>
      cases r2 with
      | nil => exact .nil
      | cons q1 t1 =>
        cases t1 with
        | nil => exact .nil
        | cons q2 t2 => exact .cons q2 (.cons q1 .nil)
section
variable {X : Cx}
theorem call_reprB : CallR X (.builtin "repr") (fun xs H Q => ∃ b : Bool, xs = [.bl b] ∧ Q (.str (if b then "True" else "False")) H) := by
  intro pins s σ H xs us Q I r h
  obtain ⟨b, rfl, q⟩ := h
  obtain ⟨u, rfl, ru⟩ := vals1 r
  obtain rfl : u = Value.bool b := ru
  exact PySem.P.repr_of_bool ⟨.str _, H, I.tok _, ⟨_, rfl⟩, q⟩
end
end G1
namespace G1
open PySem PySem.Spec PyProof.Rows L2
/-- one keyword -/
def oneW {α : Type} : List α → List α → List α
  | [], a :: _ => [a]
  | _, _ => []
theorem kbinds_one {K : PySem.W.Frag} {fd : FuncData} {p0 : Str} (h : ∀ a : Value, bindArgs fd ⟨[], [(p0, a)]⟩ = pure [(p0, a)]) : KBinds K fd [p0] [p0] oneW oneW := by
  refine ⟨fun s us ws _ hl => ?_, fun {vs us zs ws} r1 r2 => ?_⟩
  · cases us with
    | cons u us => cases hl
    | nil =>
      cases ws with
      | nil => cases hl
      | cons a ws => exact .of_eq (h a)
  · cases r1 with
    | cons q t => exact .nil
    | nil =>
      cases r2 with
      | nil => exact .nil
      | cons q1 t1 => exact .cons q1 .nil
/-- a value by a word: what follows is shown once -/
theorem pe_cut {X : Cx} {e : Expr} {t : TE} (h : PE X e t) : PE X e (fun σ H Q => ∃ M : V → Hp → Prop, t σ H M ∧ ∀ v H', M v H' → Q v H') := by
  refine ⟨fun pins s σ H Q I hq => ?_⟩
  obtain ⟨M, h1, h2⟩ := hq
  refine thn (h.run pins s σ H M I h1) ?_
  intro u s1 hu
  obtain ⟨v, H1, I1, r1, q1⟩ := hu
  exact ⟨v, H1, I1, r1, h2 v H1 q1⟩
end G1
namespace G1
open PySem PySem.Spec PyProof.Rows L2
theorem cB_small (b : Bool) : cB b < 16 ^ 8 := by cases b <;> decide
theorem leaf_B (l : List Bool) : PyData.leavesShort 8 (.str (B l)) = true := by
  simp only [PyData.leavesShort, List.all_eq_true, decide_eq_true_eq]
  intro c hc
  rw [B_cps] at hc
  obtain ⟨b, _, rfl⟩ := List.mem_map.mp hc
  exact cB_small b
theorem w_B (l : List Bool) : PyData.weight (.str (B l)) = l.length := by
  simp only [PyData.weight]
  exact B_len l
/-- repr of one object, read as data that is not great -/
theorem go_repr {K : PySem.W.Frag} {H : Hp} {R : PyData → Prop} {a : Addr} (d : PyData) (hd : Dp K H (.ref a) d) (h1 : d.showable = true) (h2 : d.hasDict = false) (h3 : d.depth ≤ 60) (h4 : d.leavesShort 8 = true) (h5 : d.weight ≤ 2 ^ 20) (q : R d) :
    ∃ (a' : Addr) (d' : PyData), [V.ref a] = [V.ref a'] ∧ Dp K H (.ref a') d' ∧ d'.showable = true ∧ d'.hasDict = false ∧ d'.depth ≤ 60 ∧ d'.shown.length ≤ sizeLine ∧ R d' :=
  ⟨a, d, rfl, hd, h1, h2, h3, PyData.shown_fits (Nat.le_refl _) (by decide) h4 h5, q⟩
theorem str_refl (z : Str) : decide (V.str z = V.str z) = true := decide_eq_true rfl
end G1
namespace G1
open PySem PySem.Spec PyProof.Rows L2
/-- the data of a table, of lists of texts and of truths -/
def dTab (h t : List Bool) : PyData := .tuple [.str (B h), .str (B t)]
theorem dp_tab {K : PySem.W.Frag} {H : Hp} {p : Addr} {h t : List Bool} (e : H p = some (.tup [.str (B h), .str (B t)])) : Dp K H (.ref p) (dTab h t) :=
  .tup (.inl (.inl e)) (.cons (.str _) (.cons (.str _) .nil))
def dStrs (ls : List (List Bool)) : PyData := .list (ls.map fun l => .str (B l))
def dBools (bs : List Bool) : PyData := .list (bs.map PyData.bool)
theorem dpAll_strs {K : PySem.W.Frag} {H : Hp} : ∀ ls : List (List Bool), DpAll K H (ls.map fun l => V.str (B l)) (ls.map fun l => .str (B l))
  | [] => .nil
  | l :: ls => .cons (.str _) (dpAll_strs ls)
theorem dpAll_bools {K : PySem.W.Frag} {H : Hp} : ∀ bs : List Bool, DpAll K H (bs.map V.bl) (bs.map PyData.bool)
  | [] => .nil
  | b :: bs => .cons (.bl _) (dpAll_bools bs)
/-- repr of a table -/
theorem repr_tab {K : PySem.W.Frag} {H : Hp} {R : PyData → Prop} {a : Addr} {h t : List Bool} (e : H a = some (.tup [.str (B h), .str (B t)])) (h1 : h.length ≤ 5000) (t1 : t.length ≤ 5000) (q : R (dTab h t)) :
    ∃ (a' : Addr) (d' : PyData), [V.ref a] = [V.ref a'] ∧ Dp K H (.ref a') d' ∧ d'.showable = true ∧ d'.hasDict = false ∧ d'.depth ≤ 60 ∧ d'.shown.length ≤ sizeLine ∧ R d' := by
  refine go_repr (dTab h t) (dp_tab e) ?_ ?_ ?_ ?_ ?_ q
  · simp [dTab, PyData.showable, PyData.showableAll]
  · simp [dTab, PyData.hasDict, PyData.hasDictAll]
  · simp [dTab, PyData.depth, PyData.depthAll]
  · simp only [dTab, PyData.leavesShort, PyData.leavesShortAll, Bool.and_eq_true]
    exact ⟨leaf_B h, leaf_B t, trivial⟩
  · simp only [dTab, PyData.weight, PyData.weightAll]
    have e1 := w_B h
    have e2 := w_B t
    simp only [PyData.weight] at e1 e2
    omega
/-- repr of three texts -/
theorem repr_s3 {K : PySem.W.Frag} {H : Hp} {R : PyData → Prop} {a : Addr} {x y z : List Bool} (e : H a = some (.lst [.str (B x), .str (B y), .str (B z)])) (h1 : x.length ≤ 100000) (h2 : y.length ≤ 100000) (h3 : z.length ≤ 100000) (q : R (dStrs [x, y, z])) :
    ∃ (a' : Addr) (d' : PyData), [V.ref a] = [V.ref a'] ∧ Dp K H (.ref a') d' ∧ d'.showable = true ∧ d'.hasDict = false ∧ d'.depth ≤ 60 ∧ d'.shown.length ≤ sizeLine ∧ R d' := by
  refine go_repr (dStrs [x, y, z]) (.lst (.inl (.inl e)) (dpAll_strs [x, y, z])) ?_ ?_ ?_ ?_ ?_ q
  · simp [dStrs, PyData.showable, PyData.showableAll]
  · simp [dStrs, PyData.hasDict, PyData.hasDictAll]
  · simp [dStrs, PyData.depth, PyData.depthAll]
  · simp only [dStrs, List.map_cons, List.map_nil, PyData.leavesShort, PyData.leavesShortAll, Bool.and_eq_true]
    exact ⟨leaf_B x, leaf_B y, leaf_B z, trivial⟩
  · simp only [dStrs, List.map_cons, List.map_nil, PyData.weight, PyData.weightAll]
    have e1 := w_B x
    have e2 := w_B y
    have e3 := w_B z
    simp only [PyData.weight] at e1 e2 e3
    omega
theorem bools_ok : ∀ bs : List Bool, PyData.showableAll (bs.map PyData.bool) = true ∧ PyData.hasDictAll (bs.map PyData.bool) = false ∧ PyData.depthAll (bs.map PyData.bool) = 0 ∧ PyData.leavesShortAll 8 (bs.map PyData.bool) = true ∧ PyData.weightAll (bs.map PyData.bool) ≤ 2 * bs.length
  | [] => by simp [PyData.showableAll, PyData.hasDictAll, PyData.depthAll, PyData.leavesShortAll, PyData.weightAll]
  | b :: bs => by
    obtain ⟨h1, h2, h3, h4, h5⟩ := bools_ok bs
    simp [PyData.showableAll, PyData.hasDictAll, PyData.depthAll, PyData.leavesShortAll, PyData.weightAll, PyData.showable, PyData.hasDict, PyData.depth, PyData.leavesShort, PyData.weight, h1, h2, h3, h4]
    omega
/-- repr of truths -/
theorem repr_bs {K : PySem.W.Frag} {H : Hp} {R : PyData → Prop} {a : Addr} (bs : List Bool) {xs : List V} (e : H a = some (.lst xs)) (ex : xs = bs.map V.bl) (hl : bs.length ≤ 1000) (q : R (dBools bs)) :
    ∃ (a' : Addr) (d' : PyData), [V.ref a] = [V.ref a'] ∧ Dp K H (.ref a') d' ∧ d'.showable = true ∧ d'.hasDict = false ∧ d'.depth ≤ 60 ∧ d'.shown.length ≤ sizeLine ∧ R d' := by
  subst ex
  obtain ⟨h1, h2, h3, h4, h5⟩ := bools_ok bs
  refine go_repr (dBools bs) (.lst (.inl (.inl e)) (dpAll_bools bs)) ?_ ?_ ?_ ?_ ?_ q
  · simp only [dBools, PyData.showable]; exact h1
  · simp only [dBools, PyData.hasDict]; exact h2
  · simp only [dBools, PyData.depth, h3]; omega
  · simp only [dBools, PyData.leavesShort]; exact h4
  · simp only [dBools, PyData.weight]; omega
end G1
namespace G1
open PySem PySem.Spec PyProof.Rows L2
def dMix (a b c : Bool) (x : List Bool) : PyData := .list [.bool a, .bool b, .bool c, .str (B x)]
theorem repr_mix {K : PySem.W.Frag} {H : Hp} {R : PyData → Prop} {p : Addr} {a b c : Bool} {x : List Bool} (e : H p = some (.lst [.bl a, .bl b, .bl c, .str (B x)])) (h1 : x.length ≤ 100000) (q : R (dMix a b c x)) :
    ∃ (a' : Addr) (d' : PyData), [V.ref p] = [V.ref a'] ∧ Dp K H (.ref a') d' ∧ d'.showable = true ∧ d'.hasDict = false ∧ d'.depth ≤ 60 ∧ d'.shown.length ≤ sizeLine ∧ R d' := by
  refine go_repr (dMix a b c x) (.lst (.inl (.inl e)) (.cons (.bl _) (.cons (.bl _) (.cons (.bl _) (.cons (.str _) .nil))))) ?_ ?_ ?_ ?_ ?_ q
  · simp [dMix, PyData.showable, PyData.showableAll]
  · simp [dMix, PyData.hasDict, PyData.hasDictAll]
  · simp [dMix, PyData.depth, PyData.depthAll]
  · simp only [dMix, PyData.leavesShort, PyData.leavesShortAll, Bool.and_eq_true]
    exact ⟨trivial, trivial, trivial, leaf_B x, trivial⟩
  · simp only [dMix, PyData.weight, PyData.weightAll]
    have e1 := w_B x
    simp only [PyData.weight] at e1
    omega
theorem L_01 : Str.ofString "01" = B [false, true] := by decide +kernel
theorem L_001 : Str.ofString "001" = B [false, false, true] := by decide +kernel
theorem L_1000 : Str.ofString "1000" = B [true, false, false, false] := by decide +kernel
end G1
namespace G1
open PySem PySem.Spec PyProof.Rows L2
/-- data that may stand in a list that is shown -/
structure Small (d : PyData) : Prop where
  sh : d.showable = true
  nd : d.hasDict = false
  dp : d.depth ≤ 20
  lv : d.leavesShort 8 = true
  wt : d.weight ≤ 20000
theorem small_bool (b : Bool) : Small (.bool b) := ⟨rfl, rfl, by simp [PyData.depth], rfl, by simp [PyData.weight]⟩
theorem small_none : Small .none := ⟨rfl, rfl, by simp [PyData.depth], rfl, by simp [PyData.weight]⟩
theorem small_B {l : List Bool} (h : l.length ≤ 20000) : Small (.str (B l)) := by
  refine ⟨rfl, rfl, by simp [PyData.depth], leaf_B l, ?_⟩
  rw [w_B]; exact h
theorem small_tab {h t : List Bool} (h1 : h.length ≤ 5000) (t1 : t.length ≤ 5000) : Small (dTab h t) := by
  refine ⟨?_, ?_, ?_, ?_, ?_⟩
  · simp [dTab, PyData.showable, PyData.showableAll]
  · simp [dTab, PyData.hasDict, PyData.hasDictAll]
  · simp [dTab, PyData.depth, PyData.depthAll]
  · simp only [dTab, PyData.leavesShort, PyData.leavesShortAll, Bool.and_eq_true]
    exact ⟨leaf_B h, leaf_B t, trivial⟩
  · simp only [dTab, PyData.weight, PyData.weightAll]
    have e1 := w_B h
    have e2 := w_B t
    simp only [PyData.weight] at e1 e2
    omega
theorem small_all : ∀ ds : List PyData, (∀ d ∈ ds, Small d) → PyData.showableAll ds = true ∧ PyData.hasDictAll ds = false ∧ PyData.depthAll ds ≤ 20 ∧ PyData.leavesShortAll 8 ds = true ∧ PyData.weightAll ds ≤ 20001 * ds.length
  | [], _ => by simp [PyData.showableAll, PyData.hasDictAll, PyData.depthAll, PyData.leavesShortAll, PyData.weightAll]
  | d :: ds, h => by
    obtain ⟨h1, h2, h3, h4, h5⟩ := small_all ds fun e he => h e (List.mem_cons_of_mem _ he)
    have s := h d List.mem_cons_self
    refine ⟨?_, ?_, ?_, ?_, ?_⟩
    · simp [PyData.showableAll, h1, s.sh]
    · simp [PyData.hasDictAll, h2, s.nd]
    · have := s.dp
      simp only [PyData.depthAll]
      omega
    · simp [PyData.leavesShortAll, h4, s.lv]
    · have := s.wt
      simp only [PyData.weightAll, List.length_cons]
      omega
/-- repr of a list of such -/
theorem repr_items {K : PySem.W.Frag} {H : Hp} {R : PyData → Prop} {a : Addr} {xs : List V} (ds : List PyData) (e : H a = some (.lst xs)) (hd : DpAll K H xs ds) (hs : ∀ d ∈ ds, Small d) (hl : ds.length ≤ 40) (q : R (.list ds)) :
    ∃ (a' : Addr) (d' : PyData), [V.ref a] = [V.ref a'] ∧ Dp K H (.ref a') d' ∧ d'.showable = true ∧ d'.hasDict = false ∧ d'.depth ≤ 60 ∧ d'.shown.length ≤ sizeLine ∧ R d' := by
  obtain ⟨h1, h2, h3, h4, h5⟩ := small_all ds hs
  refine go_repr (.list ds) (.lst (.inl (.inl e)) hd) ?_ ?_ ?_ ?_ ?_ q
  · simp only [PyData.showable]; exact h1
  · simp only [PyData.hasDict]; exact h2
  · simp only [PyData.depth]; omega
  · simp only [PyData.leavesShort]; exact h4
  · simp only [PyData.weight]
    have : 20001 * ds.length ≤ 20001 * 40 := Nat.mul_le_mul_left _ hl
    omega
theorem eqv_tab (a b c d : List Bool) : PyData.eqv (dTab a b) (dTab c d) = decide (a = c ∧ b = d) := by
  have e : ∀ x y : List Bool, (B x == B y) = decide (x = y) := fun x y => by
    by_cases h : x = y
    · subst h; simp
    · rw [decide_eq_false h]
      exact beq_eq_false_iff_ne.mpr fun z => h (B_inj z)
  have e2 : PyData.eqv (dTab a b) (dTab c d) = ((B a == B c) && ((B b == B d) && true)) := by simp only [dTab, PyData.eqv, PyData.eqvAll]
  rw [e2, e, e, Bool.and_true, Bool.decide_and]
theorem shaped_tab (h t : List Bool) : SeqAt.shaped (dTab h t) = true := by
  have l : ∀ x : List Bool, PyData.canLay0 (.str (B x)) = true := fun x => by
    simp only [PyData.canLay0, PyData.strOk]
    rw [Array.all_eq_true_iff_forall_mem]
    intro c hc
    have hc2 : c ∈ (B x).cps.toList := Array.mem_toList_iff.mpr hc
    rw [B_cps] at hc2
    obtain ⟨b, _, rfl⟩ := List.mem_map.mp hc2
    cases b <;> decide
  show (PyData.canLay0 (dTab h t) && decide (PyData.depth (dTab h t) ≤ 64)) = true
  rw [Bool.and_eq_true]
  refine ⟨?_, decide_eq_true ?_⟩
  · simp only [dTab, PyData.canLay0, PyData.canLayAll0, Bool.and_eq_true]
    exact ⟨l h, l t, trivial⟩
  · simp [dTab, PyData.depth, PyData.depthAll]
end G1
/-! what draws come from: a list of two lists and a count, changed by each draw; all else stands -/
namespace G1
open PySem PySem.Spec PyProof.Rows L2

/-- the well at w, its great cells at g -/
def WellAt (w g : Addr) (H : Hp) : Prop := ∃ (c : Addr) (gs cs : List Int) (k : Int), w ≠ g ∧ c ≠ g ∧ c ≠ w ∧ H w = some (.lst [.ref g, .ref c, .int k]) ∧
  H g = some (.lst (gs.map V.int)) ∧ H c = some (.lst (cs.map V.int)) ∧ 0 < cs.length ∧ gs.length ≤ 1000 ∧ cs.length ≤ 1000
/-- H' is as H but for the well -/
def Go (w g : Addr) (H H' : Hp) : Prop := ∀ a o, a ≠ w → a ≠ g → H a = some o → H' a = some o
theorem Go.refl {w g : Addr} {H : Hp} : Go w g H H := fun _ _ _ _ h => h
theorem Go.trans {w g : Addr} {H H1 H2 : Hp} (a : Go w g H H1) (b : Go w g H1 H2) : Go w g H H2 := fun x o h1 h2 h => b x o h1 h2 (a x o h1 h2 h)
theorem Go.of {w g : Addr} {H H' : Hp} (h : Same H H') : Go w g H H' := fun x o _ _ e => h x o e
/-- o stands at a, apart from the well -/
structure At (w g : Addr) (H : Hp) (a : Addr) (o : HO) : Prop where
  nw : a ≠ w
  ng : a ≠ g
  at_ : H a = some o
theorem At.go {w g : Addr} {H H' : Hp} {a : Addr} {o : HO} (x : At w g H a o) (s : Go w g H H') : At w g H' a o := ⟨x.nw, x.ng, s a o x.nw x.ng x.at_⟩
theorem same_new {H : Hp} {p : Addr} {o : HO} (h : H p = none) : Same H (upd H p o) := fun b x e => by
  rw [upd_ne (ne_of_none e h)]
  exact e
theorem Same.rfl' {H : Hp} : Same H H := fun _ _ h => h
theorem WellAt.same {w g : Addr} {H H' : Hp} (W : WellAt w g H) (s : Same H H') : WellAt w g H' := by
  obtain ⟨c, gs, cs, k, h1, h2, h3, h4, h5, h6, h7⟩ := W
  exact ⟨c, gs, cs, k, h1, h2, h3, s _ _ h4, s _ _ h5, s _ _ h6, h7⟩
theorem WellAt.fresh {w g p : Addr} {H : Hp} (W : WellAt w g H) (h : H p = none) : p ≠ w ∧ p ≠ g := by
  obtain ⟨c, gs, cs, k, h1, h2, h3, h4, h5, h6, h7⟩ := W
  exact ⟨(ne_of_none h4 h).symm, (ne_of_none h5 h).symm⟩
/-- a new object beside the well -/
theorem new_w {w g : Addr} {H : Hp} {o : HO} {Q : VK} (W : WellAt w g H)
    (h : ∀ p H', H p = none → Same H H' → WellAt w g H' → At w g H' p o → Q (.ref p) H') : ∀ p, H p = none → Q (.ref p) (upd H p o) := fun p hp =>
  h p _ hp (same_new hp) (W.same (same_new hp)) ⟨(W.fresh hp).1, (W.fresh hp).2, upd_same⟩
/-- a new object -/
theorem new_s {H : Hp} {o : HO} {Q : VK} (h : ∀ p H', H p = none → Same H H' → H' p = some o → Q (.ref p) H') : ∀ p, H p = none → Q (.ref p) (upd H p o) :=
  fun p hp => h p _ hp (same_new hp) upd_same
theorem new_of {w g p : Addr} {H H' : Hp} {o : HO} (W : WellAt w g H) (hp : H p = none) (e : upd H p o = H') : Same H H' ∧ WellAt w g H' ∧ At w g H' p o := by
  subst e
  exact ⟨same_new hp, W.same (same_new hp), (W.fresh hp).1, (W.fresh hp).2, upd_same⟩
theorem new_of0 {p : Addr} {H H' : Hp} {o : HO} (hp : H p = none) (e : upd H p o = H') : Same H H' ∧ H' p = some o := by
  subst e
  exact ⟨same_new hp, upd_same⟩
theorem same_mut {H H1 : Hp} {D : Addr} {o : HO} (s : Same H H1) (h : H D = none) : Same H (upd H1 D o) := fun b x e => by
  rw [upd_ne (ne_of_none e h)]
  exact s _ _ e
theorem szl {n : Nat} (h : n ≤ 1000) : n ≤ sizeLine := Nat.le_trans h (by decide)
theorem At.sqL {K : PySem.W.Frag} {w g : Addr} {H : Hp} {a : Addr} {xs : List V} (x : At w g H a (.lst xs)) : SqL K H a xs := .inl (.inl x.at_)
theorem At.sqT {K : PySem.W.Frag} {w g : Addr} {H : Hp} {a : Addr} {xs : List V} (x : At w g H a (.tup xs)) : SqT K H a xs := .inl (.inl x.at_)
theorem sqL_of {K : PySem.W.Frag} {H : Hp} {a : Addr} {xs : List V} (h : H a = some (.lst xs)) : SqL K H a xs := .inl (.inl h)
theorem sqT_of {K : PySem.W.Frag} {H : Hp} {a : Addr} {xs : List V} (h : H a = some (.tup xs)) : SqT K H a xs := .inl (.inl h)
/-- a tuple stands apart from the well -/
theorem WellAt.tup {w g a : Addr} {H : Hp} {xs : List V} (W : WellAt w g H) (h : H a = some (.tup xs)) : At w g H a (.tup xs) := by
  obtain ⟨c, gs, cs, k, h1, h2, h3, h4, h5, h6, h7⟩ := W
  exact ⟨ne_of h h4 (by intro z; cases z), ne_of h h5 (by intro z; cases z), h⟩
end G1
namespace G1
open PySem PySem.Spec PyProof.Rows L2
theorem ifT {A B : Prop} (h : A) : if true = true then A else B := by rw [if_pos rfl]; exact h
theorem ifF {A B : Prop} (h : B) : if false = true then A else B := by rw [if_neg Bool.false_ne_true]; exact h
theorem ifD {c : Prop} [Decidable c] {A B : Prop} (h1 : c → A) (h2 : ¬ c → B) : if decide c = true then A else B := by
  by_cases h : c
  · rw [decide_eq_true h]
    exact ifT (h1 h)
  · rw [decide_eq_false h]
    exact ifF (h2 h)
theorem ifDn {c : Prop} [Decidable c] {A B : Prop} (h1 : ¬ c → A) (h2 : c → B) : if (!decide c) = true then A else B := by
  by_cases h : c
  · rw [decide_eq_true h]
    exact ifF (h2 h)
  · rw [decide_eq_false h]
    exact ifT (h1 h)
theorem ifB {b : Bool} {A B : Prop} (h1 : b = true → A) (h2 : b = false → B) : if b = true then A else B := by
  cases b with
  | true => exact ifT (h1 rfl)
  | false => exact ifF (h2 rfl)
end G1
namespace G1
open PySem PySem.Spec PyProof.Rows L2
theorem dpAll_ints {K : PySem.W.Frag} {H : Hp} : ∀ ns : List Int, DpAll K H (ns.map V.int) (ns.map PyData.int)
  | [] => .nil
  | n :: ns => .cons (.int n) (dpAll_ints ns)
theorem lay_ints : ∀ ns : List Int, PyData.canLayAll0 (ns.map PyData.int) = true
  | [] => by simp [PyData.canLayAll0]
  | n :: ns => by simp [PyData.canLayAll0, PyData.canLay0, lay_ints ns]
theorem depth_ints : ∀ ns : List Int, PyData.depthAll (ns.map PyData.int) = 0
  | [] => by simp [PyData.depthAll]
  | n :: ns => by simp [PyData.depthAll, PyData.depth, depth_ints ns]
theorem shaped_ints (ns : List Int) : SeqAt.shaped (.list (ns.map PyData.int)) = true := by
  show (PyData.canLay0 (.list (ns.map PyData.int)) && decide (PyData.depth (.list (ns.map PyData.int)) ≤ 64)) = true
  rw [Bool.and_eq_true]
  refine ⟨by simp only [PyData.canLay0]; exact lay_ints ns, decide_eq_true ?_⟩
  simp only [PyData.depth, depth_ints]
  omega
theorem eqv_ints_nil (ns : List Int) : PyData.eqv (.list (ns.map PyData.int)) (.list []) = decide (ns = []) := by
  cases ns with
  | nil => simp [PyData.eqv, PyData.eqvAll]
  | cons n ns => simp [PyData.eqv, PyData.eqvAll]
end G1

namespace G1
open PySem PySem.Spec PyProof.Rows L2
theorem ix_zero {n : Nat} (h : 0 < n) : ixN n 0 = some 0 := by
  unfold ixN
  rw [if_pos (by omega), if_pos (by omega)]
  rfl
theorem ix_at {n j : Nat} {i : Int} (e : i = (j : Int)) (h : j < n) : ixN n i = some j := by
  subst e
  unfold ixN
  rw [if_pos (by omega), if_pos (by omega)]
  rfl
end G1

namespace G1
open PySem PySem.Spec PyProof.Rows L2
theorem seq_zero (n : Nat) : seqIndex? 0 (n + 1) = some 0 := by
  unfold seqIndex?
  simp
end G1

namespace G1
open PySem PySem.Spec PyProof.Rows L2
section
variable {K : PySem.W.Frag} {H : Hp} {Q : VK} {p : Addr} {xs : List V} {v : V}
theorem go_ixL {R : V → Prop} {j : Nat} (hs : H p = some (.lst xs)) (hj : xs[j]? = some v) (q : R v) :
    ∃ p' xs' i' v', V.ref p = V.ref p' ∧ V.int (j : Int) = V.int i' ∧ SqL K H p' xs' ∧ atI xs' i' = some v' ∧ R v' :=
  ⟨p, xs, _, v, rfl, rfl, sqL_of hs, atI_nat hj, q⟩
theorem go_ixLi {R : V → Prop} {i : Int} {j : Nat} (hs : H p = some (.lst xs)) (e : i = (j : Int)) (hj : xs[j]? = some v) (q : R v) :
    ∃ p' xs' i' v', V.ref p = V.ref p' ∧ V.int i = V.int i' ∧ SqL K H p' xs' ∧ atI xs' i' = some v' ∧ R v' := by
  subst e
  exact ⟨p, xs, _, v, rfl, rfl, sqL_of hs, atI_nat hj, q⟩
theorem go_ixT {R : V → Prop} {j : Nat} (hs : H p = some (.tup xs)) (hj : xs[j]? = some v) (q : R v) :
    ∃ p' xs' i' v', V.ref p = V.ref p' ∧ V.int (j : Int) = V.int i' ∧ SqT K H p' xs' ∧ atI xs' i' = some v' ∧ R v' :=
  ⟨p, xs, _, v, rfl, rfl, sqT_of hs, atI_nat hj, q⟩
theorem go_ixLast {R : V → Prop} (hs : H p = some (.lst xs)) (hj : xs[xs.length - 1]? = some v) (q : R v) :
    ∃ p' xs' i' v', V.ref p = V.ref p' ∧ V.int (-1) = V.int i' ∧ SqL K H p' xs' ∧ atI xs' i' = some v' ∧ R v' := by
  refine ⟨p, xs, _, v, rfl, rfl, sqL_of hs, ?_, q⟩
  have hl : 0 < xs.length := by
    cases xs with
    | nil => simp at hj
    | cons a l => simp
  unfold atI ixN
  rw [if_neg (by omega), if_pos (by omega)]
  show xs[(-1 + (xs.length : Int)).toNat]? = _
  rw [show (-1 + (xs.length : Int)).toNat = xs.length - 1 by omega]
  exact hj
theorem go_tup {R : List V → Prop} (hs : H p = some (.tup xs)) (q : R xs) : ∃ a ys, V.ref p = V.ref a ∧ SqT K H a ys ∧ R ys := ⟨p, xs, rfl, sqT_of hs, q⟩
theorem go_unl {R : List V → Prop} (hs : H p = some (.lst xs)) (q : R xs) : ∃ a ys, V.ref p = V.ref a ∧ SqL K H a ys ∧ R ys := ⟨p, xs, rfl, sqL_of hs, q⟩
theorem go_lenL {R : List V → Prop} (hs : H p = some (.lst xs)) (q : R xs) : ∃ p' ys, [V.ref p] = [V.ref p'] ∧ (SqL K H p' ys ∨ SqT K H p' ys) ∧ R ys :=
  ⟨p, xs, rfl, Or.inl (sqL_of hs), q⟩
end
end G1

namespace G1
open PySem PySem.Spec PyProof.Rows L2
section
variable {l m : List Bool}
/-- len of a text of two signs -/
theorem go_lenS {R : Str → Prop} (h : l.length ≤ 1000000) (q : R (B l)) : ∃ z, [V.str (B l)] = [V.str z] ∧ z.length ≤ sizeLine ∧ R z :=
  ⟨B l, rfl, by rw [B_len]; exact szM h, q⟩
theorem go_addS {R : Str → Str → Prop} (h : l.length + m.length ≤ 1000000) (q : R (B l) (B m)) : ∃ i j, V.str (B l) = V.str i ∧ V.str (B m) = V.str j ∧ i.length + j.length ≤ sizeLine ∧ R i j :=
  ⟨B l, B m, rfl, rfl, by rw [B_len, B_len]; exact szM h, q⟩
theorem go_mulS {R : Str → Int → Prop} {n : Int} (h : 0 ≤ n ∧ n < 2 ^ 30) (h2 : l.length * n.toNat ≤ 1000000) (q : R (B l) n) :
    ∃ z k, V.str (B l) = V.str z ∧ V.int n = V.int k ∧ 0 ≤ k ∧ k < 2 ^ 30 ∧ z.length * k.toNat ≤ 1000000 ∧ R z k :=
  ⟨B l, n, rfl, rfl, h.1, h.2, by rw [B_len]; exact h2, q⟩
theorem go_sl {R : Str → Prop} (h : l.length ≤ 1000000) (q : R (B l)) : ∃ z, V.str (B l) = V.str z ∧ z.length ≤ sizeLine ∧ R z :=
  ⟨B l, rfl, by rw [B_len]; exact szM h, q⟩
theorem go_ixS {R : Nat → Prop} {i : Int} {k : Nat} {b : Bool} (hi : i = (k : Int)) (h : l.length ≤ 1000000) (hk : l[k]? = some b) (q : R (cB b)) :
    ∃ z i' c, V.str (B l) = V.str z ∧ V.int i = V.int i' ∧ z.length ≤ sizeLine ∧ atI z.cps.toList i' = some c ∧ R c :=
  ⟨B l, i, _, rfl, rfl, by rw [B_len]; exact szM h, B_at l hi hk, q⟩
theorem go_ixSn {R : Nat → Prop} {i : Int} {k : Nat} {b : Bool} (hi : i = -1 - (k : Int)) (h : l.length ≤ 1000000) (hl : k < l.length) (hk : l[l.length - 1 - k]? = some b) (q : R (cB b)) :
    ∃ z i' c, V.str (B l) = V.str z ∧ V.int i = V.int i' ∧ z.length ≤ sizeLine ∧ atI z.cps.toList i' = some c ∧ R c :=
  ⟨B l, i, _, rfl, rfl, by rw [B_len]; exact szM h, B_atNeg l hi hl hk, q⟩
end
end G1
namespace G1
open PySem PySem.Spec PyProof.Rows L2
theorem log_small {i : Int} (h0 : 0 ≤ i) (h1 : i < 2 ^ 64) : i.natAbs.log2 < 1920 := by
  have h : i.natAbs < 2 ^ 64 := by omega
  by_cases hz : i.natAbs = 0
  · rw [hz]; decide
  · exact Nat.lt_of_lt_of_le ((Nat.log2_lt hz).mpr h) (by decide)
theorem go_bit {R : Int → Prop} {i : Int} (h : 0 ≤ i ∧ i < 2) (q : R i) : ∃ k, [V.int i] = [V.int k] ∧ k.natAbs.log2 < 1920 ∧ R k :=
  ⟨i, rfl, log_small h.1 (by omega), q⟩
theorem flat_one : ∀ bs : List Bool, (bs.map fun b => [b]).flatten = bs
  | [] => rfl
  | b :: bs => by rw [List.map_cons, List.flatten_cons, flat_one bs]; rfl
theorem len_one : ∀ bs : List Bool, ((bs.map fun b => B [b]).map (·.length)).sum = bs.length
  | [] => rfl
  | b :: bs => by
    rw [List.map_cons, List.map_cons, List.sum_cons, len_one bs, B_len, List.length_cons, List.length_cons, List.length_nil]
    omega
theorem go_join {K : PySem.W.Frag} {H : Hp} {R : Str → List Str → Prop} {D : Addr} {bs : List Bool} (hD : H D = some (.lst (bs.map fun b => V.str (B [b])))) (hl : bs.length ≤ 1000000) (q : R (B []) (bs.map fun b => B [b])) :
    ∃ a p ys, V.str (B []) = V.str a ∧ [V.ref D] = [V.ref p] ∧ (SqL K H p (List.map V.str ys) ∨ SqT K H p (List.map V.str ys)) ∧ (List.map (fun x => x.length) ys).sum + ys.length * a.length ≤ 16777216 ∧ R a ys := by
  refine ⟨B [], D, bs.map fun b => B [b], rfl, rfl, Or.inl ?_, ?_, q⟩
  · rw [List.map_map]
    exact sqL_of hD
  · rw [len_one, B_len]
    simp
    omega
theorem joined (bs : List Bool) : Txt.join (B []) (bs.map fun b => B [b]) = B bs := by
  have e : (bs.map fun b => B [b]) = (bs.map fun b => [b]).map B := by rw [List.map_map]; rfl
  rw [e, join_nil, flat_one]
end G1
namespace G1
open PySem PySem.Spec PyProof.Rows L2
theorem go_in {K : PySem.W.Frag} {H : Hp} {R : Bool → Prop} {p : Addr} {x : Int} {ys : List Int} {xs : List V} (hs : H p = some (.tup xs)) (e : xs = ys.map V.int) (q : ∀ b, R b) :
    ∃ p' zs, V.ref p = V.ref p' ∧ (SqL K H p' zs ∨ SqT K H p' zs) ∧ flatV (.int x) = true ∧ zs.all flatV = true ∧ R (inV (.int x) zs) := by
  refine ⟨p, xs, rfl, Or.inr (sqT_of hs), rfl, ?_, q _⟩
  subst e
  rw [List.all_eq_true]
  intro v hv
  obtain ⟨i, _, rfl⟩ := List.mem_map.mp hv
  rfl
theorem mul_le {a b n m : Nat} (h1 : a ≤ n) (h2 : b ≤ m) (h : n * m ≤ 1000000) : a * b ≤ 1000000 := Nat.le_trans (Nat.mul_le_mul h1 h2) h
end G1
/-! rows of signs: a head and then a turn again and again; least forms (plain Lean) -/
namespace Row
/-- the sign of a number -/
def sg (h t : List Bool) (n : Nat) : Bool := if n < h.length then h.getD n false else t.getD ((n - h.length) % t.length) false
/-- so many signs of a row from a place on -/
def rng (r : Nat → Bool) (a n : Nat) : List Bool := (List.range n).map fun i => r (a + i)
theorem rng_len (r : Nat → Bool) (a n : Nat) : (rng r a n).length = n := by unfold rng; rw [List.length_map, List.length_range]
theorem rng_get (r : Nat → Bool) (a n i : Nat) (h : i < n) : (rng r a n)[i]? = some (r (a + i)) := by
  unfold rng
  rw [List.getElem?_map, List.getElem?_range h]
  rfl
theorem rng_getD (r : Nat → Bool) (a n i : Nat) (h : i < n) : (rng r a n).getD i false = r (a + i) := by
  rw [List.getD_eq_getElem?_getD, rng_get r a n i h]
  rfl
theorem ext_rng {l : List Bool} {r : Nat → Bool} {a n : Nat} (hl : l.length = n) (h : ∀ i, i < n → l[i]? = some (r (a + i))) : l = rng r a n := by
  apply List.ext_getElem?
  intro i
  by_cases hi : i < n
  · rw [h i hi, rng_get r a n i hi]
  · rw [List.getElem?_eq_none (by omega), List.getElem?_eq_none (by rw [rng_len]; omega)]
theorem getD_some {l : List Bool} {i : Nat} (h : i < l.length) : l[i]? = some (l.getD i false) := by
  rw [List.getD_eq_getElem?_getD, List.getElem?_eq_getElem h]
  rfl
theorem sg_head {h t : List Bool} {n : Nat} (hn : n < h.length) : sg h t n = h.getD n false := by unfold sg; rw [if_pos hn]
theorem sg_turn {h t : List Bool} {n : Nat} (hn : h.length ≤ n) : sg h t n = t.getD ((n - h.length) % t.length) false := by unfold sg; rw [if_neg (by omega)]
/-- far numbers as those nearer by a multiple of the turn -/
theorem sg_back {h t : List Bool} (n k : Nat) (hk : h.length + k * t.length ≤ n) : sg h t (n - k * t.length) = sg h t n := by
  rw [sg_turn (by omega), sg_turn (by omega)]
  congr 1
  rw [show n - k * t.length - h.length = (n - h.length) - k * t.length by omega]
  have e : n - h.length = ((n - h.length) - k * t.length) + k * t.length := by omega
  rw [e, Nat.add_mul_mod_self_right]
  congr 1
  omega

/-! ### turns that come round -/
/-- turned on by k the turn is the same -/
def Rot (t : List Bool) (k : Nat) : Prop := ∀ i, i < t.length → t.getD i false = t.getD ((i + k) % t.length) false
theorem Rot.any {t : List Bool} {k : Nat} (h : Rot t k) (ht : 0 < t.length) (i : Nat) : t.getD (i % t.length) false = t.getD ((i + k) % t.length) false := by
  have := h (i % t.length) (Nat.mod_lt _ ht)
  rw [this, Nat.mod_add_mod]
theorem Rot.mul {t : List Bool} {k : Nat} (h : Rot t k) (ht : 0 < t.length) (m : Nat) : Rot t (m * k) := by
  induction m with
  | zero =>
    intro i hi
    rw [Nat.zero_mul, Nat.add_zero, Nat.mod_eq_of_lt hi]
  | succ m ih =>
    intro i hi
    rw [ih i hi, h.any ht]
    congr 1
    rw [Nat.succ_mul]
    congr 1
    omega
theorem rot_len (t : List Bool) : Rot t t.length := by
  intro i hi
  rw [Nat.add_mod_right, Nat.mod_eq_of_lt hi]
/-- the least way by which the turn is turned on into itself -/
structure IsPer (t : List Bool) (s : Nat) : Prop where
  pos : 1 ≤ s
  le : s ≤ t.length
  rot : Rot t s
  least : ∀ k, 1 ≤ k → k < s → ¬ Rot t k
theorem IsPer.uniq {t : List Bool} {s s' : Nat} (a : IsPer t s) (b : IsPer t s') : s = s' := by
  rcases Nat.lt_trichotomy s s' with h | h | h
  · exact absurd a.rot (b.least s a.pos h)
  · exact h
  · exact absurd b.rot (a.least s' b.pos h)
theorem IsPer.dvd {t : List Bool} {s : Nat} (a : IsPer t s) : t.length % s = 0 := by
  have ht : 0 < t.length := Nat.lt_of_lt_of_le a.pos a.le
  by_cases h : t.length % s = 0
  · exact h
  · exfalso
    have hlt := Nat.mod_lt t.length (show 0 < s from a.pos)
    refine a.least (t.length % s) (by omega) hlt ?_
    -- T = q s + r, turned on by T and back by q s
    intro i hi
    have hq := (a.rot.mul ht (t.length / s)).any ht (i + t.length % s)
    rw [hq]
    have e : i + t.length % s + t.length / s * s = i + t.length := by
      have := Nat.mod_add_div t.length s
      rw [Nat.mul_comm] at this
      omega
    rw [e, Nat.add_mod_right, Nat.mod_eq_of_lt hi]

/-- where the turn begins, if it is s signs long -/
structure IsBeg (h t : List Bool) (s m : Nat) : Prop where
  le : m ≤ h.length
  same : ∀ n, m ≤ n → n < h.length → sg h t n = sg h t (n + s)
  least : m = 0 ∨ sg h t (m - 1) ≠ sg h t (m - 1 + s)
theorem IsBeg.uniq {h t : List Bool} {s m m' : Nat} (a : IsBeg h t s m) (b : IsBeg h t s m') : m = m' := by
  have key : ∀ {m m' : Nat}, IsBeg h t s m → IsBeg h t s m' → ¬ m < m' := by
    intro m m' a b hlt
    rcases b.least with e | e
    · omega
    · exact e (a.same (m' - 1) (by omega) (by have := b.le; omega))
  have k1 := key a b
  have k2 := key b a
  omega
/-- behind the head the row goes on by the turn -/
theorem sg_rot {h t : List Bool} {s : Nat} (ht : 0 < t.length) (r : Rot t s) {n : Nat} (hn : h.length ≤ n) : sg h t n = sg h t (n + s) := by
  rw [sg_turn hn, sg_turn (by omega), r.any ht]
  congr 2
  omega
theorem IsBeg.from {h t : List Bool} {s m : Nat} (a : IsBeg h t s m) (p : IsPer t s) {n : Nat} (hn : m ≤ n) : sg h t n = sg h t (n + s) := by
  by_cases hh : n < h.length
  · exact a.same n hn hh
  · exact sg_rot (Nat.lt_of_lt_of_le p.pos p.le) p.rot (by omega)
theorem IsBeg.mul {h t : List Bool} {s m : Nat} (a : IsBeg h t s m) (p : IsPer t s) {n : Nat} (hn : m ≤ n) (k : Nat) : sg h t n = sg h t (n + k * s) := by
  induction k with
  | zero => rw [Nat.zero_mul, Nat.add_zero]
  | succ k ih =>
    rw [ih, a.from p (by omega), Nat.succ_mul]
    congr 1
    omega
/-- the least form tells the same -/
theorem sg_least {h t : List Bool} {s m : Nat} (a : IsBeg h t s m) (p : IsPer t s) (n : Nat) : sg (rng (sg h t) 0 m) (rng (sg h t) m s) n = sg h t n := by
  by_cases hn : n < m
  · rw [sg_head (by rw [rng_len]; exact hn), rng_getD _ _ _ _ hn, Nat.zero_add]
  · rw [sg_turn (by rw [rng_len]; omega), rng_len, rng_len, rng_getD _ _ _ _ (Nat.mod_lt _ p.pos)]
    have h1 := a.mul p (n := m + (n - m) % s) (by omega) ((n - m) / s)
    rw [h1]
    congr 1
    have := Nat.mod_add_div (n - m) s
    rw [Nat.mul_comm] at this
    omega
end Row
/-! the two ways to a least form: by parts of the turn and the head gone backwards; by turning on and by halving -/
namespace Row
open G1
theorem per_exists {t : List Bool} (ht : 0 < t.length) : ∃ s, IsPer t s := by
  have key : ∀ n, (∃ k, 1 ≤ k ∧ k ≤ n ∧ Rot t k) → ∃ s, 1 ≤ s ∧ s ≤ n ∧ Rot t s ∧ ∀ k, 1 ≤ k → k < s → ¬ Rot t k := by
    intro n
    induction n with
    | zero => rintro ⟨k, h1, h2, _⟩; omega
    | succ n ih =>
      rintro ⟨k, h1, h2, h3⟩
      by_cases h : ∃ k, 1 ≤ k ∧ k ≤ n ∧ Rot t k
      · obtain ⟨s, a, b, c, d⟩ := ih h
        exact ⟨s, a, by omega, c, d⟩
      · refine ⟨k, h1, h2, h3, fun j j1 j2 j3 => h ⟨j, j1, by omega, j3⟩⟩
  obtain ⟨s, a, b, c, d⟩ := key t.length ⟨t.length, ht, Nat.le_refl _, rot_len t⟩
  exact ⟨s, a, b, c, d⟩
theorem rot_part {t : List Bool} {s : Nat} (hs : 1 ≤ s) (hd : t.length % s = 0) (ht : 0 < t.length) (r : Rot t s) (i : Nat) (hi : i < t.length) : t.getD i false = t.getD (i % s) false := by
  have h := (r.mul ht (i / s)) (i % s) (Nat.lt_of_le_of_lt (Nat.mod_le _ _) hi)
  rw [h]
  congr 1
  have := Nat.mod_add_div i s
  rw [Nat.mul_comm] at this
  rw [this, Nat.mod_eq_of_lt hi]
theorem part_get {t : List Bool} {s : Nat} (hs : 1 ≤ s) (hl : s ≤ t.length) (hd : t.length % s = 0) (i : Nat) (hi : i < t.length) : (rep (t.length / s) (t.take s))[i]? = some (t.getD (i % s) false) := by
  have e : (t.take s).length = s := by rw [List.length_take]; omega
  have e2 : t.length / s * s = t.length := by
    have := Nat.mod_add_div t.length s
    rw [Nat.mul_comm] at this
    omega
  have hm := Nat.mod_lt i (show 0 < s from hs)
  rw [rep_get _ _ _ (by rw [e, e2]; exact hi), e, List.getElem?_take, if_pos hm]
  exact getD_some (by omega)
theorem rep_iff {t : List Bool} {s : Nat} (hs : 1 ≤ s) (hl : s ≤ t.length) (hd : t.length % s = 0) : rep (t.length / s) (t.take s) = t ↔ Rot t s := by
  have ht : 0 < t.length := by omega
  have e : (t.take s).length = s := by rw [List.length_take]; omega
  have e2 : t.length / s * s = t.length := by
    have := Nat.mod_add_div t.length s
    rw [Nat.mul_comm] at this
    omega
  constructor
  · intro h i hi
    have k1 : ∀ i, i < t.length → t.getD i false = t.getD (i % s) false := by
      intro i hi
      have h1 := part_get hs hl hd i hi
      rw [h, getD_some hi] at h1
      exact Option.some.inj h1
    rw [k1 i hi, k1 _ (Nat.mod_lt _ ht)]
    congr 1
    obtain ⟨q, hq⟩ : ∃ q, t.length = s * q := ⟨t.length / s, by rw [Nat.mul_comm]; exact e2.symm⟩
    rw [hq, Nat.mod_mul_right_mod, Nat.add_mod_right]
  · intro r
    apply List.ext_getElem?
    intro i
    by_cases hi : i < t.length
    · rw [part_get hs hl hd i hi, getD_some hi, rot_part hs hd ht r i hi]
    · rw [List.getElem?_eq_none (by rw [rep_length, e, e2]; omega), List.getElem?_eq_none (by omega)]

/-! ### the head gone backwards -/
/-- so many of the last signs of the head are as the turn u, gone backwards, has them, and no more -/
structure Alike (h u : List Bool) (a : Nat) : Prop where
  le : a ≤ h.length
  same : ∀ j, j < a → h.getD (h.length - 1 - j) false = u.getD (u.length - 1 - j % u.length) false
  last : a = h.length ∨ h.getD (h.length - 1 - a) false ≠ u.getD (u.length - 1 - a % u.length) false
/-- the row of u, begun anywhere -/
def gg (h u : List Bool) (n : Nat) : Bool := u.getD ((n + h.length * u.length - h.length) % u.length) false
theorem sub_mod_id {s j A : Nat} (hs : 0 < s) (hj : j < A) : (A * s - 1 - j) % s = s - 1 - j % s := by
  have hm := Nat.mod_lt j hs
  have h1 := Nat.mod_add_div j s
  have hq : j / s < A := Nat.lt_of_le_of_lt (Nat.div_le_self j s) hj
  obtain ⟨c, hc⟩ : ∃ c, A = j / s + 1 + c := ⟨A - j / s - 1, by omega⟩
  have e : A * s - 1 - j = (s - 1 - j % s) + s * c := by
    rw [hc, Nat.add_mul, Nat.add_mul, Nat.one_mul, Nat.mul_comm c s, Nat.mul_comm (j / s) s]
    omega
  rw [e, Nat.add_mul_mod_self_left, Nat.mod_eq_of_lt (by omega)]
theorem mul_ge {A s : Nat} (hs : 0 < s) : A ≤ A * s := Nat.le_mul_of_pos_right A hs
theorem gg_head {h u : List Bool} {j : Nat} (hu : 0 < u.length) (hj : j < h.length) : gg h u (h.length - 1 - j) = u.getD (u.length - 1 - j % u.length) false := by
  unfold gg
  congr 1
  rw [← sub_mod_id hu hj]
  congr 1
  have := mul_ge (A := h.length) hu
  omega
theorem gg_add {h u : List Bool} (hu : 0 < u.length) (n : Nat) : gg h u (n + u.length) = gg h u n := by
  unfold gg
  congr 1
  have := mul_ge (A := h.length) hu
  rw [show n + u.length + h.length * u.length - h.length = (n + h.length * u.length - h.length) + u.length by omega, Nat.add_mod_right]
section
variable {h t : List Bool} {s a : Nat}
theorem take_len (p : IsPer t s) : (t.take s).length = s := by rw [List.length_take]; exact Nat.min_eq_left p.le
theorem take_getD {i : Nat} (hi : i < s) : (t.take s).getD i false = t.getD i false := by
  rw [List.getD_eq_getElem?_getD, List.getD_eq_getElem?_getD, List.getElem?_take, if_pos hi]
theorem sg_gg (p : IsPer t s) (x : Alike h (t.take s) a) {n : Nat} (hn : h.length - a ≤ n) : sg h t n = gg h (t.take s) n := by
  have hu : 0 < (t.take s).length := by rw [take_len p]; exact p.pos
  have ht : 0 < t.length := Nat.lt_of_lt_of_le p.pos p.le
  by_cases hh : n < h.length
  · obtain ⟨j, hj⟩ : ∃ j, n = h.length - 1 - j ∧ j < h.length := ⟨h.length - 1 - n, by omega, by omega⟩
    obtain ⟨rfl, hj2⟩ := hj
    rw [sg_head hh, gg_head hu hj2, x.same j (by omega)]
  · rw [sg_turn (by omega)]
    unfold gg
    rw [take_len p]
    rw [take_getD (Nat.mod_lt _ p.pos)]
    rw [rot_part p.pos p.dvd ht p.rot _ (Nat.mod_lt _ ht)]
    congr 1
    obtain ⟨q, hq⟩ : ∃ q, t.length = s * q := ⟨t.length / s, by
      have := Nat.mod_add_div t.length s
      have hd := p.dvd
      omega⟩
    rw [hq, Nat.mod_mul_right_mod]
    have hge := mul_ge (A := h.length) p.pos
    rw [show n + h.length * s - h.length = (n - h.length) + h.length * s by omega, Nat.add_mul_mod_self_right]
theorem beg_of (p : IsPer t s) (x : Alike h (t.take s) a) : IsBeg h t s (h.length - a) := by
  have hu : 0 < (t.take s).length := by rw [take_len p]; exact p.pos
  have hle := x.le
  refine ⟨Nat.sub_le _ _, fun n h1 h2 => ?_, ?_⟩
  · rw [sg_gg p x h1, sg_gg p x (by omega)]
    have := gg_add (h := h) hu n
    rw [take_len p] at this
    exact this.symm
  · rcases x.last with e | e
    · exact .inl (by omega)
    · by_cases h0 : a = h.length
      · exact .inl (by omega)
      · refine .inr fun z => e ?_
        have ha : a < h.length := by omega
        rw [sg_head (by omega), sg_gg p x (n := h.length - a - 1 + s) (by have := p.pos; omega)] at z
        have g1 := gg_add (h := h) hu (h.length - a - 1)
        rw [take_len p] at g1
        rw [g1, show h.length - a - 1 = h.length - 1 - a by omega, gg_head hu ha] at z
        exact z
theorem win_of (p : IsPer t s) (x : Alike h (t.take s) a) :
    (t.take s).drop (s - a % s) ++ (t.take s).take (s - a % s) = rng (sg h t) (h.length - a) s := by
  have hl := take_len p
  have hle := x.le
  have hm := Nat.mod_lt a p.pos
  have hg : ∀ i, i < s → sg h t (h.length - a + i) = gg h (t.take s) (h.length - a + i) := fun i _ => sg_gg p x (by omega)
  unfold gg at hg
  rw [hl] at hg
  have hge := mul_ge (A := h.length) p.pos
  have ha := Nat.mod_add_div a s
  have hq : a / s ≤ h.length := Nat.le_trans (Nat.div_le_self a s) hle
  have hqs : a / s ≤ s * (a / s) := by
    rw [Nat.mul_comm]
    exact mul_ge p.pos
  obtain ⟨c, hc⟩ : ∃ c, h.length = a / s + c := ⟨h.length - a / s, by omega⟩
  have e0 : h.length * s = s * (a / s) + s * c := by
    conv => lhs; rw [hc]
    rw [Nat.add_mul, Nat.mul_comm (a / s) s, Nat.mul_comm c s]
  generalize hlu : t.take s = u at *
  generalize a / s = q at *
  generalize a % s = ρ at *
  generalize h.length * s = A at *
  refine ext_rng (by rw [List.length_append, List.length_drop, List.length_take, hl]; omega) fun i hi => ?_
  rw [hg i hi]
  have e1 : h.length - a + i + A - h.length = s * c + i - ρ := by omega
  rw [e1]
  by_cases h1 : i < ρ
  · rw [List.getElem?_append_left (by rw [List.length_drop, hl]; omega), List.getElem?_drop, getD_some (by rw [hl]; omega)]
    congr 2
    have hc0 : c ≠ 0 := by
      rintro rfl
      rw [Nat.mul_zero] at e0
      omega
    obtain ⟨d, rfl⟩ : ∃ d, c = d + 1 := ⟨c - 1, by omega⟩
    have e5 : s * (d + 1) = s * d + s := Nat.mul_succ s d
    rw [show s * (d + 1) + i - ρ = (s - ρ + i) + s * d by omega, Nat.add_mul_mod_self_left, Nat.mod_eq_of_lt (by omega)]
  · rw [List.getElem?_append_right (by rw [List.length_drop, hl]; omega), List.length_drop, hl, List.getElem?_take, if_pos (by omega), getD_some (by rw [hl]; omega)]
    congr 2
    rw [show s * c + i - ρ = (i - ρ) + s * c by omega, Nat.add_mul_mod_self_left, Nat.mod_eq_of_lt (by omega)]
    omega
theorem head_of (hm : a ≤ h.length) : h.take (h.length - a) = rng (sg h t) 0 (h.length - a) := by
  refine ext_rng (by rw [List.length_take]; omega) fun i hi => ?_
  rw [List.getElem?_take, if_pos hi, Nat.zero_add, sg_head (by omega), getD_some (by omega)]
end
end Row
/-! str.find from a place; the least form by turning on and by halving -/
namespace Row
open G1 PySem PySem.StrLaws PySem.Builtin PySem.Builtin.Str
theorem occ_full (s sub : Str) (hi : Nat) : ∀ (l : List Nat) (st : Array Nat × Nat), 1 ≤ st.fst.size → (forIn l st (occBody s sub hi 1)).run.fst = st.fst
  | [], st, h => rfl
  | a :: l, st, h => by
    rw [List.forIn_cons]
    unfold occBody
    rw [if_neg (fun c => by have := c.1.1.1; omega)]
    exact occ_full s sub hi l _ h
theorem occ_first (s sub : Str) (hi : Nat) : ∀ (n lo free k : Nat), free ≤ lo → lo ≤ k → k < lo + n → (k + sub.length ≤ hi ∧ subAt s sub k = true) →
    (∀ j, lo ≤ j → j < k → ¬ (j + sub.length ≤ hi ∧ subAt s sub j = true)) →
    (forIn (List.range' lo n) ((#[] : Array Nat), free) (occBody s sub hi 1)).run.fst.toList = [k]
  | 0, lo, free, k, _, h1, h2, _, _ => by omega
  | n + 1, lo, free, k, hf, h1, h2, hm, hl => by
    rw [List.range'_succ, List.forIn_cons]
    unfold occBody
    by_cases hk : k = lo
    · subst hk
      have c1 : ((((#[] : Array Nat), free).fst.size < 1 ∧ ((#[] : Array Nat), free).snd ≤ k) ∧ k + sub.length ≤ hi) ∧ subAt s sub k = true := ⟨⟨⟨by simp, hf⟩, hm.1⟩, hm.2⟩
      rw [if_pos c1]
      have h3 := occ_full s sub hi (List.range' (k + 1) n) (((#[] : Array Nat)).push k, k + sub.length) (by simp)
      have h4 : (forIn (List.range' (k + 1) n) (((#[] : Array Nat)).push k, k + sub.length) (occBody s sub hi 1)).run.fst.toList = [k] := by rw [h3]; rfl
      exact h4
    · have c2 : ¬ (((((#[] : Array Nat), free).fst.size < 1 ∧ ((#[] : Array Nat), free).snd ≤ lo) ∧ lo + sub.length ≤ hi) ∧ subAt s sub lo = true) := fun c => hl lo (Nat.le_refl _) (by omega) ⟨c.1.2, c.2⟩
      rw [if_neg c2]
      exact occ_first s sub hi n (lo + 1) free k (by omega) (by omega) (by omega) hm fun j j1 j2 => hl j (by omega) j2
theorem subAt_B (x y : List Bool) (k : Nat) : subAt (B x) (B y) k = true ↔ (x.drop k).take y.length = y := by
  rw [subAt_eq]
  rw [B_len, B_cps, B_cps, beq_iff_eq, ← List.map_drop, ← List.map_take]
  exact ⟨map_cB_inj, fun h => by rw [h]⟩
theorem find3_of {x y : List Bool} {s : Nat} (h1 : 1 ≤ s) (hs : s + y.length ≤ x.length) (hm : (x.drop s).take y.length = y) (hl : ∀ k, 1 ≤ k → k < s → (x.drop k).take y.length ≠ y) :
    Txt.find3 (B x) (B y) 1 = (s : Int) := by
  unfold Txt.find3
  have e : occurrences (B x) (B y) (fromIndex (B x).length 1) (B x).length 1 = [s] := by
    rw [occ_eq]
    have e1 : fromIndex (B x).length 1 = 1 := rfl
    rw [e1]
    refine occ_first (B x) (B y) (B x).length _ 1 1 s (Nat.le_refl _) h1 (by rw [B_len]; omega) ⟨by rw [B_len, B_len]; exact hs, (subAt_B x y s).mpr hm⟩ fun j j1 j2 c => ?_
    exact hl j j1 j2 ((subAt_B x y j).mp c.2)
  rw [e]
theorem twice_get {t : List Bool} {k : Nat} (hk : k ≤ t.length) {i : Nat} (hi : i < t.length) : (((t ++ t).drop k).take t.length)[i]? = some (t.getD ((i + k) % t.length) false) := by
  rw [List.getElem?_take, if_pos hi, List.getElem?_drop]
  by_cases h : k + i < t.length
  · rw [List.getElem?_append_left h, getD_some h, Nat.add_comm i k, Nat.mod_eq_of_lt h]
  · rw [List.getElem?_append_right (by omega), getD_some (by omega), Nat.add_comm i k]
    congr 2
    rw [Nat.mod_eq_sub_mod (by omega), Nat.mod_eq_of_lt (by omega)]
theorem twice_rot {t : List Bool} {k : Nat} (hk : k ≤ t.length) : ((t ++ t).drop k).take t.length = t ↔ Rot t k := by
  constructor
  · intro h i hi
    have h1 := twice_get hk hi
    rw [h, getD_some hi] at h1
    exact Option.some.inj h1
  · intro r
    apply List.ext_getElem?
    intro i
    by_cases hi : i < t.length
    · rw [twice_get hk hi, getD_some hi, r i hi]
    · rw [List.getElem?_eq_none (by rw [List.length_take, List.length_drop, List.length_append]; omega), List.getElem?_eq_none (by omega)]
/-- (t + t).find(t, 1) -/
theorem find_per {t : List Bool} {s : Nat} (p : IsPer t s) : Txt.find3 (B (t ++ t)) (B t) 1 = (s : Int) := by
  have hle := p.le
  refine find3_of p.pos (by rw [List.length_append]; omega) ((twice_rot hle).mpr p.rot) fun k k1 k2 h => ?_
  exact p.least k k1 k2 ((twice_rot (by omega)).mp h)

/-! ### halving -/
/-- the row of a head and its turn twice -/
theorem row2_get {h t : List Bool} {i : Nat} (hi : i < h.length + t.length + t.length) : (h ++ t ++ t)[i]? = some (sg h t i) := by
  by_cases h1 : i < h.length
  · rw [List.append_assoc, List.getElem?_append_left h1, sg_head h1, getD_some h1]
  · rw [sg_turn (by omega), List.append_assoc, List.getElem?_append_right (by omega)]
    have ht : 0 < t.length := by omega
    by_cases h2 : i - h.length < t.length
    · rw [List.getElem?_append_left h2, getD_some h2, Nat.mod_eq_of_lt h2]
    · rw [List.getElem?_append_right (by omega), getD_some (by omega)]
      congr 2
      rw [Nat.mod_eq_sub_mod (by omega), Nat.mod_eq_of_lt (by omega)]
/-- what a turn of the halving asks -/
theorem half_iff {h t : List Bool} {s m : Nat} (hs : s ≤ t.length) (hm : m ≤ h.length) :
    ((h ++ t ++ t).take h.length).drop m = ((h ++ t ++ t).take (h.length + s)).drop (m + s) ↔ ∀ n, m ≤ n → n < h.length → sg h t n = sg h t (n + s) := by
  constructor
  · intro e n h1 h2
    have e2 := congrArg (fun l => l[n - m]?) e
    simp only [List.getElem?_drop, List.getElem?_take] at e2
    rw [if_pos (by omega), if_pos (by omega), row2_get (by omega), row2_get (by omega)] at e2
    have e3 := Option.some.inj e2
    rw [show m + (n - m) = n by omega, show m + s + (n - m) = n + s by omega] at e3
    exact e3
  · intro a
    apply List.ext_getElem?
    intro i
    rw [List.getElem?_drop, List.getElem?_drop, List.getElem?_take, List.getElem?_take]
    by_cases h1 : m + i < h.length
    · rw [if_pos h1, if_pos (by omega), row2_get (by omega), row2_get (by omega), a (m + i) (by omega) h1]
      congr 2
      omega
    · rw [if_neg h1, if_neg (by omega)]
/-- between low and high the place lies -/
structure Half (h t : List Bool) (s lo hi : Nat) : Prop where
  le : lo ≤ hi
  top : hi ≤ h.length
  same : ∀ n, hi ≤ n → n < h.length → sg h t n = sg h t (n + s)
  low : ∀ m, m < lo → ∃ n, m ≤ n ∧ n < h.length ∧ sg h t n ≠ sg h t (n + s)
theorem Half.beg {h t : List Bool} {s lo hi : Nat} (x : Half h t s lo hi) (e : lo = hi) : IsBeg h t s hi := by
  subst e
  refine ⟨x.top, x.same, ?_⟩
  rcases Nat.eq_zero_or_pos lo with z | z
  · exact .inl z
  · refine .inr fun c => ?_
    obtain ⟨n, h1, h2, h3⟩ := x.low (lo - 1) (by omega)
    by_cases e : n = lo - 1
    · subst e
      exact h3 c
    · exact h3 (x.same n (by omega) h2)
theorem beg_exists {h t : List Bool} {s : Nat} : ∃ m, IsBeg h t s m := by
  have key : ∀ d, d ≤ h.length → (∀ n, h.length - d ≤ n → n < h.length → sg h t n = sg h t (n + s)) → ∃ m, IsBeg h t s m := by
    intro d
    induction hk : h.length - d generalizing d with
    | zero => exact fun h1 h2 => ⟨0, Nat.zero_le _, fun n a b => h2 n a b, .inl rfl⟩
    | succ k ih =>
      intro h1 h2
      by_cases c : sg h t k = sg h t (k + s)
      · refine ih (d + 1) (by omega) (by omega) fun n a b => ?_
        by_cases e : n = k
        · subst e; exact c
        · exact h2 n (by omega) b
      · exact ⟨k + 1, by omega, h2, .inr c⟩
  exact key 0 (Nat.zero_le _) fun n a b => by omega
theorem rng_take {h t : List Bool} {m : Nat} (hm : m ≤ h.length + t.length + t.length) : (h ++ t ++ t).take m = rng (sg h t) 0 m := by
  refine ext_rng (by rw [List.length_take, List.length_append, List.length_append]; omega) fun i hi => ?_
  rw [List.getElem?_take, if_pos hi, row2_get (by omega), Nat.zero_add]
theorem rng_mid {h t : List Bool} {m s : Nat} (hm : m + s ≤ h.length + t.length + t.length) : ((h ++ t ++ t).take (m + s)).drop m = rng (sg h t) m s := by
  refine ext_rng (by rw [List.length_drop, List.length_take, List.length_append, List.length_append]; omega) fun i hi => ?_
  rw [List.getElem?_drop, List.getElem?_take, if_pos (by omega), row2_get (by omega)]
/-- the first so many signs -/
theorem row_take {h t : List Bool} {k m : Nat} (ht : 0 < t.length) (hm : m ≤ h.length + k * t.length) : (h ++ rep k t).take m = rng (sg h t) 0 m := by
  refine ext_rng (by rw [List.length_take, List.length_append, rep_length]; omega) fun i hi => ?_
  rw [List.getElem?_take, if_pos hi, Nat.zero_add]
  by_cases h1 : i < h.length
  · rw [List.getElem?_append_left h1, sg_head h1, getD_some h1]
  · rw [List.getElem?_append_right (by omega), rep_get _ _ _ (by omega), sg_turn (by omega), getD_some (Nat.mod_lt _ ht)]
end Row
namespace Row
theorem less_ok {h t : List Bool} {n : Int} (n0 : 0 ≤ n) (t0 : 0 < t.length) :
    0 ≤ n - (if n - (h.length : Int) > 0 then n - (h.length : Int) else 0) / (t.length : Int) * (t.length : Int) ∧
    sg h t (n - (if n - (h.length : Int) > 0 then n - (h.length : Int) else 0) / (t.length : Int) * (t.length : Int)).toNat = sg h t n.toNat := by
  by_cases hn : n - (h.length : Int) > 0
  · rw [if_pos hn]
    obtain ⟨k, hk⟩ : ∃ k, k = (n.toNat - h.length) / t.length := ⟨_, rfl⟩
    have e : (n - (h.length : Int)) / (t.length : Int) = (k : Int) := by
      rw [hk, Int.natCast_ediv]
      congr 1
      omega
    have hm := Nat.div_mul_le_self (n.toNat - h.length) t.length
    rw [← hk] at hm
    rw [e]
    have hc : (k : Int) * (t.length : Int) = ((k * t.length : Nat) : Int) := (Int.natCast_mul _ _).symm
    rw [hc]
    refine ⟨by omega, ?_⟩
    have e2 : (n - ((k * t.length : Nat) : Int)).toNat = n.toNat - k * t.length := by omega
    rw [e2]
    exact sg_back _ _ (by omega)
  · rw [if_neg hn]
    have e : (0 : Int) / (t.length : Int) * (t.length : Int) = 0 := by rw [Int.zero_ediv, Int.zero_mul]
    rw [e, Int.sub_zero]
    exact ⟨n0, rfl⟩
end Row
/-! least tables written otherwise -/
namespace Row
open G1
theorem row_mid {h t : List Bool} {k m s : Nat} (ht : 0 < t.length) (hm : m + s ≤ h.length + k * t.length) : ((h ++ rep k t).take (m + s)).drop m = rng (sg h t) m s := by
  rw [row_take ht hm]
  refine ext_rng (by rw [List.length_drop, rng_len]; omega) fun i hi => ?_
  rw [List.getElem?_drop, rng_get _ _ _ _ (by omega), Nat.zero_add]
/-- the turn can't be shortened, the head does not go on by it -/
structure Prim (h u : List Bool) : Prop where
  per : IsPer u u.length
  last : h.length = 0 ∨ h.getD (h.length - 1) false ≠ u.getD (u.length - 1) false
theorem Prim.pos {h u : List Bool} (x : Prim h u) : 0 < u.length := x.per.pos
theorem Prim.beg {h u : List Bool} (x : Prim h u) : IsBeg h u u.length h.length := by
  refine ⟨Nat.le_refl _, fun n a b => by omega, ?_⟩
  rcases x.last with e | e
  · exact .inl e
  · by_cases h0 : h.length = 0
    · exact .inl h0
    · refine .inr fun z => e ?_
      have hp := x.pos
      rw [sg_head (by omega), sg_turn (by omega), show h.length - 1 + u.length - h.length = u.length - 1 by omega, Nat.mod_eq_of_lt (by omega)] at z
      exact z
theorem Prim.head {h u : List Bool} : rng (sg h u) 0 h.length = h :=
  (ext_rng (a := 0) rfl fun i hi => by rw [Nat.zero_add, sg_head hi, getD_some hi]).symm
theorem Prim.turn {h u : List Bool} : rng (sg h u) h.length u.length = u :=
  (ext_rng (a := h.length) rfl fun i hi => by rw [sg_turn (by omega), show h.length + i - h.length = i by omega, Nat.mod_eq_of_lt hi, getD_some hi]).symm
theorem rep_getD {l : List Bool} {k i : Nat} (hi : i < k * l.length) (hl : 0 < l.length) : (rep k l).getD i false = l.getD (i % l.length) false := by
  rw [List.getD_eq_getElem?_getD, rep_get _ _ _ hi, List.getD_eq_getElem?_getD]
section
variable {h u : List Bool} {M k : Nat}
/-- a sign of the turn that is turned on and repeated -/
theorem wr_getD (hu : 0 < u.length) {i : Nat} (hi : i < k * u.length) : (rep k (rng (sg h u) M u.length)).getD i false = sg h u (M + i % u.length) := by
  rw [rep_getD (by rw [rng_len]; exact hi) (by rw [rng_len]; exact hu), rng_len, rng_getD _ _ _ _ (Nat.mod_lt _ hu)]
theorem wr_len : (rep k (rng (sg h u) M u.length)).length = k * u.length := by rw [rep_length, rng_len]
theorem sg_mul (hu : 0 < u.length) {n j : Nat} (hn : h.length ≤ n) : sg h u (n + u.length * j) = sg h u n := by
  rw [sg_turn (by omega), sg_turn hn, show n + u.length * j - h.length = (n - h.length) + u.length * j by omega, Nat.add_mul_mod_self_left]
theorem sg_mod (hu : 0 < u.length) (hM : h.length ≤ M) (i : Nat) : sg h u (M + i % u.length) = sg h u (M + i) := by
  have e : M + i = (M + i % u.length) + u.length * (i / u.length) := by
    have := Nat.mod_add_div i u.length
    omega
  rw [e, sg_mul hu (by omega)]
theorem wr_sg (hu : 0 < u.length) (hM : h.length ≤ M) (hk : 1 ≤ k) : sg (rng (sg h u) 0 M) (rep k (rng (sg h u) M u.length)) = sg h u := by
  funext n
  have hkl : 0 < k * u.length := Nat.mul_pos hk hu
  by_cases hn : n < M
  · rw [sg_head (by rw [rng_len]; exact hn), rng_getD _ _ _ _ hn, Nat.zero_add]
  · rw [sg_turn (by rw [rng_len]; omega), rng_len, wr_len, wr_getD hu (Nat.mod_lt _ hkl), Nat.mul_comm, Nat.mod_mul_right_mod, sg_mod hu hM]
    congr 1
    omega
theorem wr_per (x : IsPer u u.length) (hM : h.length ≤ M) (hk : 1 ≤ k) : IsPer (rep k (rng (sg h u) M u.length)) u.length := by
  have hu : 0 < u.length := x.pos
  have hkl : u.length ≤ k * u.length := Nat.le_mul_of_pos_left _ hk
  refine ⟨hu, by rw [wr_len]; exact hkl, fun i hi => ?_, fun j j1 j2 r => ?_⟩
  · rw [wr_len] at hi ⊢
    rw [wr_getD hu hi, wr_getD hu (Nat.mod_lt _ (by omega)), Nat.mul_comm, Nat.mod_mul_right_mod, Nat.add_mod_right]
  · refine x.least j j1 j2 fun i hi => ?_
    -- the place in the repeated turn that stands for i
    obtain ⟨a, ha⟩ : ∃ a, a = (i + u.length - (M - h.length) % u.length) % u.length := ⟨_, rfl⟩
    have al : a < u.length := by rw [ha]; exact Nat.mod_lt _ hu
    have hb := Nat.mod_lt (M - h.length) hu
    have e2 : ((M - h.length) + a) % u.length = i := by
      have hd := Nat.mod_add_div (M - h.length) u.length
      rw [ha, Nat.add_mod_mod]
      rw [show M - h.length + (i + u.length - (M - h.length) % u.length) = (i + u.length) + u.length * ((M - h.length) / u.length) by omega]
      rw [Nat.add_mul_mod_self_left, Nat.add_mod_right, Nat.mod_eq_of_lt hi]
    have key : ∀ c, sg h u (M + (a + c)) = u.getD ((i + c) % u.length) false := fun c => by
      rw [sg_turn (by omega)]
      congr 1
      rw [show M + (a + c) - h.length = ((M - h.length) + a) + c by omega, ← Nat.mod_add_mod, e2]
    have r2 := r a (by rw [wr_len]; omega)
    rw [wr_len, wr_getD hu (by omega), wr_getD hu (Nat.mod_lt _ (by omega)), Nat.mul_comm k, Nat.mod_mul_right_mod, sg_mod hu hM, sg_mod hu hM] at r2
    have k0 := key 0
    rw [Nat.add_zero, Nat.add_zero, Nat.mod_eq_of_lt hi] at k0
    rw [← k0, r2, key j]
theorem wr_beg (x : Prim h u) (hM : h.length ≤ M) (hk : 1 ≤ k) : IsBeg (rng (sg h u) 0 M) (rep k (rng (sg h u) M u.length)) u.length h.length := by
  have e := wr_sg (k := k) x.pos hM hk
  refine ⟨by rw [rng_len]; exact hM, fun n a b => ?_, ?_⟩
  · rw [e]
    exact sg_rot x.pos (rot_len u) a
  · rw [e]
    exact x.beg.least
end
/-- the part of a turn by which it goes can't be shortened -/
theorem part_per {t : List Bool} {s : Nat} (p : IsPer t s) : IsPer (t.take s) (t.take s).length := by
  have hl := take_len p
  have hs : 0 < s := p.pos
  have ht : 0 < t.length := Nat.lt_of_lt_of_le p.pos p.le
  refine ⟨by omega, Nat.le_refl _, rot_len _, fun j j1 j2 r => ?_⟩
  rw [hl] at j2
  refine p.least j j1 j2 fun i hi => ?_
  rw [rot_part p.pos p.dvd ht p.rot i hi, rot_part p.pos p.dvd ht p.rot _ (Nat.mod_lt _ ht)]
  obtain ⟨q, hq⟩ : ∃ q, t.length = s * q := ⟨t.length / s, by
    have := Nat.mod_add_div t.length s
    have hd := p.dvd
    omega⟩
  rw [hq, Nat.mod_mul_right_mod]
  have h1 := r (i % s) (by rw [hl]; exact Nat.mod_lt _ hs)
  rw [hl, take_getD (Nat.mod_lt _ hs), take_getD (Nat.mod_lt _ hs), Nat.mod_add_mod] at h1
  exact h1
end Row
/-! texts of any signs, as lists of codes -/
namespace G1
open PySem PySem.Spec PyProof.Rows L2
def C (l : List Nat) : Str := SX.S l
theorem C_inj {l m : List Nat} (h : C l = C m) : l = m := SX.S_inj h
theorem C_dec (l m : List Nat) : decide (V.str (C l) = V.str (C m)) = decide (l = m) := by
  by_cases h : l = m
  · rw [h, decide_eq_true rfl, decide_eq_true rfl]
  · rw [decide_eq_false h, decide_eq_false fun e => h (C_inj (V.str.inj e))]
theorem C_len (l : List Nat) : (C l).length = l.length := SX.S_len l
theorem C_cps (l : List Nat) : (C l).cps.toList = l := rfl
theorem C_app (l m : List Nat) : C l ++ C m = C (l ++ m) := SX.S_cat l m
theorem C_one (c : Nat) : (⟨#[c]⟩ : Str) = C [c] := rfl
theorem C_cut (l : List Nat) (lo hi : Option Int) : cutS (C l) lo hi = C ((l.drop (HT.sIx l.length 0 lo)).take (HT.sIx l.length l.length hi - HT.sIx l.length 0 lo)) := by
  unfold cutS C
  rw [SX.S_len]
theorem C_to (l : List Nat) {j : Int} (h : 0 ≤ j) : cutS (C l) none (some j) = C (l.take j.toNat) := by
  rw [C_cut, sIx_of _ _ h]
  show C ((l.drop 0).take (min j.toNat l.length - 0)) = _
  rw [List.drop_zero, Nat.sub_zero, ← List.take_eq_take_min]
theorem C_from (l : List Nat) {i : Int} (h : 0 ≤ i) : cutS (C l) (some i) none = C (l.drop i.toNat) := by
  rw [C_cut, sIx_of _ _ h]
  show C ((l.drop (min i.toNat l.length)).take (l.length - min i.toNat l.length)) = _
  rw [List.take_of_length_le (by rw [List.length_drop]; omega)]
  by_cases hi : i.toNat ≤ l.length
  · rw [Nat.min_eq_left hi]
  · rw [Nat.min_eq_right (by omega), List.drop_length, List.drop_of_length_le (by omega)]
theorem C_mid (l : List Nat) {i j : Int} (h : 0 ≤ i) (hj : 0 ≤ j) : cutS (C l) (some i) (some j) = C ((l.take j.toNat).drop i.toNat) := by
  rw [C_cut, sIx_of _ _ h, sIx_of _ _ hj]
  congr 1
  apply List.ext_getElem?
  intro k
  rw [List.getElem?_take, List.getElem?_drop, List.getElem?_drop, List.getElem?_take]
  by_cases hi : i.toNat ≤ l.length
  · rw [Nat.min_eq_left hi]
    by_cases hj2 : j.toNat ≤ l.length
    · rw [Nat.min_eq_left hj2]
      by_cases h3 : k < j.toNat - i.toNat
      · rw [if_pos h3, if_pos (by omega)]
      · rw [if_neg h3, if_neg (by omega)]
    · rw [Nat.min_eq_right (by omega)]
      by_cases h3 : k < l.length - i.toNat
      · rw [if_pos h3, if_pos (by omega)]
      · rw [if_neg h3]
        split
        · exact (List.getElem?_eq_none (by omega)).symm
        · rfl
  · have hm : min i.toNat l.length = l.length := Nat.min_eq_right (Nat.le_of_lt (Nat.lt_of_not_le hi))
    rw [hm, List.getElem?_eq_none (by omega), List.getElem?_eq_none (by omega)]
    split <;> split <;> rfl
theorem C_at (l : List Nat) {i : Int} {k : Nat} {b : Nat} (hi : i = (k : Int)) (h : l[k]? = some b) : atI (C l).cps.toList i = some b := by
  subst hi
  exact atI_nat h
def repN (n : Nat) (l : List Nat) : List Nat := (List.replicate n l).flatten
theorem repN_zero (l : List Nat) : repN 0 l = [] := rfl
theorem repN_succ (n : Nat) (l : List Nat) : repN (n + 1) l = l ++ repN n l := by
  unfold repN
  rw [List.replicate_succ, List.flatten_cons]
theorem repN_length (n : Nat) (l : List Nat) : (repN n l).length = n * l.length := by
  induction n with
  | zero => rw [repN_zero, Nat.zero_mul]; rfl
  | succ n ih => rw [repN_succ, List.length_append, ih, Nat.succ_mul, Nat.add_comm]
theorem repN_get (n : Nat) (l : List Nat) (i : Nat) (h : i < n * l.length) : (repN n l)[i]? = l[i % l.length]? := by
  induction n generalizing i with
  | zero => rw [Nat.zero_mul] at h; omega
  | succ n ih =>
    rw [repN_succ]
    by_cases hi : i < l.length
    · rw [List.getElem?_append_left hi, Nat.mod_eq_of_lt hi]
    · have h1 : l.length ≤ i := by omega
      rw [List.getElem?_append_right h1, ih (i - l.length) (by rw [Nat.succ_mul] at h; omega), ← Nat.mod_eq_sub_mod h1]
theorem C_mul (l : List Nat) {n : Int} (h : 0 ≤ n) : Txt.mul (C l) n = C (repN n.toNat l) := by
  unfold Txt.mul
  by_cases h1 : n < 1
  · rw [if_pos h1, show n.toNat = 0 by omega, repN_zero]
    rfl
  · rw [if_neg h1]
    by_cases h2 : (n == 1 || (C l).length == 0) = true
    · rw [if_pos h2]
      rw [Bool.or_eq_true, beq_iff_eq, beq_iff_eq, C_len] at h2
      rcases h2 with h2 | h2
      · subst h2
        show C l = C (repN 1 l)
        rw [repN_succ, repN_zero, List.append_nil]
      · rw [List.length_eq_zero_iff] at h2
        subst h2
        congr 1
        have := repN_length n.toNat []
        rw [List.length_nil, Nat.mul_zero, List.length_eq_zero_iff] at this
        exact this.symm
    · rw [if_neg h2]
      unfold C repN
      refine TL.ext_tl ?_
      show (List.foldl (· ++ ·) #[] (List.replicate n.toNat (SX.S l).cps)).toList = _
      rw [foldl_app]
      simp [TL.tl]
theorem joinC (ls : List (List Nat)) : Txt.join (B []) (ls.map C) = C ls.flatten := by
  show Txt.join (SX.S []) (ls.map SX.S) = _
  rw [SX.join_S]
  unfold C
  congr 1
  have key : ∀ ms : List (List Nat), TL.joinL [] ms = ms.flatten := by
    intro ms
    induction ms with
    | nil => rfl
    | cons m ms ih =>
      cases ms with
      | nil => simp [TL.joinL]
      | cons k ks =>
        rw [List.flatten_cons, ← ih]
        simp [TL.joinL]
  exact key _
theorem C_dig (i : Nat) (h : i < 10) : (Str.ofString (toString (i : Int))) = C [48 + i] := by
  have : i = 0 ∨ i = 1 ∨ i = 2 ∨ i = 3 ∨ i = 4 ∨ i = 5 ∨ i = 6 ∨ i = 7 ∨ i = 8 ∨ i = 9 := by omega
  rcases this with rfl | rfl | rfl | rfl | rfl | rfl | rfl | rfl | rfl | rfl <;> decide +kernel
/-- join of single signs -/
theorem go_joinC {K : PySem.W.Frag} {H : Hp} {R : Str → List Str → Prop} {D : Addr} {bs : List Nat} (hD : H D = some (.lst (bs.map fun b => V.str (C [b])))) (hl : bs.length ≤ 1000000) (q : R (B []) (bs.map fun b => C [b])) :
    ∃ a p ys, V.str (B []) = V.str a ∧ [V.ref D] = [V.ref p] ∧ (SqL K H p (List.map V.str ys) ∨ SqT K H p (List.map V.str ys)) ∧ (List.map (fun x => x.length) ys).sum + ys.length * a.length ≤ 16777216 ∧ R a ys := by
  have ln : ∀ bs : List Nat, ((bs.map fun b => C [b]).map (·.length)).sum = bs.length := by
    intro bs
    induction bs with
    | nil => rfl
    | cons b bs ih =>
      rw [List.map_cons, List.map_cons, List.sum_cons, ih, C_len, List.length_cons, List.length_cons, List.length_nil]
      omega
  refine ⟨B [], D, bs.map fun b => C [b], rfl, rfl, Or.inl ?_, ?_, q⟩
  · rw [List.map_map]
    exact sqL_of hD
  · rw [ln, B_len]
    simp
    omega
theorem joinedC (bs : List Nat) : Txt.join (B []) (bs.map fun b => C [b]) = C bs := by
  have e : (bs.map fun b => C [b]) = (bs.map fun b => [b]).map C := by rw [List.map_map]; rfl
  rw [e, joinC]
  congr 1
  induction bs with
  | nil => rfl
  | cons b bs ih => rw [List.map_cons, List.flatten_cons, ih (by rw [List.map_map]; rfl)]; rfl
theorem go_lenT {K : PySem.W.Frag} {H : Hp} {p : Addr} {xs : List V} {R : List V → Prop} (hs : H p = some (.tup xs)) (q : R xs) : ∃ p' ys, [V.ref p] = [V.ref p'] ∧ (SqL K H p' ys ∨ SqT K H p' ys) ∧ R ys :=
  ⟨p, xs, rfl, Or.inr (sqT_of hs), q⟩
section
variable {l m : List Nat}
theorem goC_sl {R : Str → Prop} (h : l.length ≤ 1000000) (q : R (C l)) : ∃ z, V.str (C l) = V.str z ∧ z.length ≤ sizeLine ∧ R z :=
  ⟨C l, rfl, by rw [C_len]; exact szM h, q⟩
theorem goC_mulS {R : Str → Int → Prop} {n : Int} (h : 0 ≤ n ∧ n < 2 ^ 30) (h2 : l.length * n.toNat ≤ 1000000) (q : R (C l) n) :
    ∃ z k, V.str (C l) = V.str z ∧ V.int n = V.int k ∧ 0 ≤ k ∧ k < 2 ^ 30 ∧ z.length * k.toNat ≤ 1000000 ∧ R z k :=
  ⟨C l, n, rfl, rfl, h.1, h.2, by rw [C_len]; exact h2, q⟩
theorem goC_ixS {R : Nat → Prop} {i : Int} {k : Nat} {b : Nat} (hi : i = (k : Int)) (h : l.length ≤ 1000000) (hk : l[k]? = some b) (q : R b) :
    ∃ z i' c, V.str (C l) = V.str z ∧ V.int i = V.int i' ∧ z.length ≤ sizeLine ∧ atI z.cps.toList i' = some c ∧ R c :=
  ⟨C l, i, _, rfl, rfl, by rw [C_len]; exact szM h, C_at l hi hk, q⟩
end
end G1
/-! for i, c in enumerate(text) -/
namespace G1
open PySem PySem.Spec PyProof.Rows L2
/-- the signs of x, each in a new pair with its place -/
def Ites (x : Str) : It :=
  ⟨fun i _ => i < x.cps.size, fun i H v H' => ∃ T c, v = .ref T ∧ H T = none ∧ x.cps[i]? = some c ∧ H' = upd H T (.tup [.int (i : Nat), .str ⟨#[c]⟩]), fun i _ => i = x.cps.size⟩
theorem turn_enumS {P : Program} {w : World} {K : PySem.W.Frag} {elts : List Expr} {kk : Nat} {tpos : Pos} (x : Str) (t : Tok) (e it : Addr) (hne : e ≠ it) :
    Turn P w K (.Tuple elts kk tpos) (Ites x) [e, it] e (fun i h => (∃ old, IsEnum h e it (0 + (i : Int)) old) ∧ h.IsStrIter it (strIterType x) x t i) where
  mem := by simp
  obj := fun i h st b hb => by
    obtain ⟨⟨old, he⟩, ⟨o, ho, hc, hd⟩⟩ := st
    rcases (by simpa using hb : b = e ∨ b = it) with rfl | rfl
    · exact ⟨_, he, fun v z => nomatch z⟩
    · refine ⟨o, ho, fun v z => ?_⟩
      rw [hd] at z
      cases z
  keep := fun i h h' st k => by
    obtain ⟨⟨old, he⟩, o, ho, r⟩ := st
    exact ⟨⟨old, k e (by simp) _ he⟩, o, k it (by simp) o ho, r⟩
  item := by
    intro X hX hW hKK calm i pins s σ H E I away st hg
    subst hX hW hKK
    have D := Draws.text (prog := X.prog) (w := X.w) (A := X.A.in1) (I.ok.hd calm) it x t
    have W := GoesN.enumFrom (elts := elts) (x1 := kk) (pos := tpos) 0 D e hne (by simpa using hne) (by simp)
    refine W.goes i s _ E hg st fun v h' tk hY st' hk htk => ?_
    obtain ⟨T, t', y, ev, hT, ⟨c, u, hcx, ey⟩, hO⟩ := hY
    subst ev ey
    obtain ⟨o, ho, hoc, n, hod⟩ := hO
    have new : ObjOk X.prog X.w (upd H T (.tup [.int (i : Nat), .str ⟨#[c]⟩])) h' T (.tup [.int (i : Nat), .str ⟨#[c]⟩]) :=
      ⟨by show 2 ≤ sizeLine; decide, [.int (0 + (i : Int)) t', .str ⟨#[c]⟩ u], .cons ⟨t', by rw [Int.zero_add]⟩ (.cons ⟨u, rfl⟩ .nil), ⟨o, ho, hoc, n, hod⟩⟩
    have I1 : Inv X pins σ (upd H T (.tup [.int (i : Nat), .str ⟨#[c]⟩])) { s with heap := h', toks := tk } :=
      I.turnedNew (ch := [e, it]) hk away hT new
    refine ⟨.ref T, _, I1, rfl, ⟨T, c, rfl, I.hok.fresh hT, hcx, rfl⟩, st', fun b hb => ?_⟩
    have hb' : b < s.heap.objs.size := by
      obtain ⟨⟨old, he⟩, o2, ho2, _⟩ := st
      rcases (by simpa using hb : b = e ∨ b = it) with rfl | rfl
      · exact Heap.lt_size he
      · exact Heap.lt_size ho2
    rw [upd_ne (Nat.ne_of_lt (Nat.lt_of_lt_of_le hb' hT))]
    exact (away b hb).1
  done := by
    intro X hX hW hKK calm i pins s σ H E I away st hg
    subst hX hW hKK
    replace hg : i = x.cps.size := hg
    subst hg
    have D := Draws.text (prog := X.prog) (w := X.w) (A := X.A.in1) (I.ok.hd calm) it x t
    have W := GoesN.enumFrom (elts := elts) (x1 := kk) (pos := tpos) 0 D e hne (by simpa using hne) (by simp)
    refine W.stops s _ E st fun h' tk hk htk => ?_
    exact I.turnedL (t' := tk) (ch := [e, it]) hk away
  self := fun A i s Q E st q => wpAny_pyIter_enum st.1.choose_spec q
def iEnumS (ta : TA) : TI := fun σ H R => ta σ H fun vs H1 => ∃ x, vs = [.str x] ∧ R (Ites x) H1
theorem pi_enumS {X : Cx} {e : Expr} {ta : TA} {p pos tpos : Pos} {elts : List Expr} {kk : Nat} (hg : Gl X "enumerate") (hm : X.mg "enumerate" = none) (ha : PA X [e] ta) (hs : starEach [e] X.env = [(false, eval e X.env)] := by rfl) :
    PI X (.Tuple elts kk tpos) (.Call (.Name "enumerate" p) [e] [] pos) (iEnumS ta) := by
  refine ⟨fun pn s σ H R Iv told => Call_ (ld_blt Iv hg hm boot_enumerate (PyProof.Rows.callWith_type1 (thn (ha.run pos pn s σ H _ Iv told) ?_) hs rfl))⟩
  rintro us s1 ⟨vs, H1, I1, r1, x, rfl, q⟩
  cases r1 with
  | cons r rr =>
    cases rr
    obtain ⟨t, rfl⟩ := r
    refine call_enumerate_str fun h' he hit hsz hk => wpAny_pyIter_enum he ?_
    refine ⟨s1.heap.objs.size + 1, [s1.heap.objs.size + 1, s1.heap.objs.size], _, _, H1, rfl, I1.kept (t' := s1.toks) hk, turn_enumS x t (s1.heap.objs.size + 1) s1.heap.objs.size (Nat.succ_ne_self _), ⟨⟨.none, he⟩, hit⟩, fun b hb => ?_, q⟩
    have up : s1.heap.objs.size ≤ b := by
      rcases (by simpa using hb : b = s1.heap.objs.size + 1 ∨ b = s1.heap.objs.size) with rfl | rfl
      · exact Nat.le_succ _
      · exact Nat.le_refl _
    exact I1.fpOk up (I1.hok.fresh up)
theorem lc_enumS {x : Str} {g : TG} {tt : TT} {te : TE} {vs : List Nat} {σ : L2.St} {H1 : Hp} {D : Addr} {Qd : Hp → Prop} (Pv : Nat → Hp → Prop) (h0 : Pv 0 (upd H1 D (.lst [])))
    (hs : ∀ i c T H, x.cps[i]? = some c → Pv i H → H T = none → g (.ref T) (wipe σ vs) (upd H T (.tup [.int (i : Nat), .str ⟨#[c]⟩])) fun σ2 H2 => wipe σ2 vs = wipe σ vs ∧ tt σ2 H2 fun b H3 =>
      if b = true then te σ2 H3 fun y H4 => ∃ acc, H4 D = some (.lst acc) ∧ acc.length < sizeLine ∧ Pv (i + 1) (upd H4 D (.lst (acc ++ [y]))) else Pv (i + 1) H3) (hd : ∀ H, Pv x.cps.size H → Qd H) :
    ∃ W : Nat → Nat → Hp → Prop, (∃ m, W 0 m (upd H1 D (.lst []))) ∧ ∀ i m H, W i m H →
      ((Ites x).stop i H ∧ Qd H) ∨ ((Ites x).go i H ∧ ∃ Nx : Hp → Prop, (∀ H', Nx H' → ∃ m', m' < m ∧ W (i + 1) m' H') ∧ ∀ v H', (Ites x).yld i H v H' → g v (wipe σ vs) H' fun σ2 H2 => wipe σ2 vs = wipe σ vs ∧ tt σ2 H2 fun b H3 =>
        if b = true then te σ2 H3 fun y H4 => ∃ acc, H4 D = some (.lst acc) ∧ acc.length < sizeLine ∧ Nx (upd H4 D (.lst (acc ++ [y]))) else Nx H3) := by
  refine ⟨fun i m H => m = x.cps.size - i ∧ i ≤ x.cps.size ∧ Pv i H, ⟨x.cps.size, by simp, Nat.zero_le _, h0⟩, ?_⟩
  rintro i m H ⟨rfl, hi, p⟩
  by_cases hlt : i < x.cps.size
  · refine .inr ⟨hlt, Pv (i + 1), fun H' p' => ⟨x.cps.size - (i + 1), by omega, rfl, hlt, p'⟩, fun v H' y => ?_⟩
    obtain ⟨T, c, rfl, hT, hc, rfl⟩ := y
    exact hs i c T H hc p hT
  · have e : i = x.cps.size := by omega
    subst e
    exact .inl ⟨rfl, hd H p⟩
theorem for_enumS {x : Str} {g : TG} {tb : TS} {D : Ends} {σ : L2.St} {H : Hp} (Pv : Nat → L2.St → Hp → Prop) (h0 : Pv 0 σ H)
    (hs : ∀ i c T σ H, x.cps[i]? = some c → Pv i σ H → H T = none → g (.ref T) σ (upd H T (.tup [.int (i : Nat), .str ⟨#[c]⟩])) fun σ2 H2 => tb { D with nx := Pv (i + 1), ct := Pv (i + 1), bk := D.nx } σ2 H2) (hd : ∀ σ H, Pv x.cps.size σ H → D.nx σ H) :
    ∃ W : Nat → Nat → L2.St → Hp → Prop, (∃ m, W 0 m σ H) ∧ ∀ i m σ H, W i m σ H →
      ((Ites x).stop i H ∧ D.nx σ H) ∨ ((Ites x).go i H ∧ ∃ N : L2.St → Hp → Prop, (∀ σ' H', N σ' H' → ∃ m', m' < m ∧ W (i + 1) m' σ' H') ∧ ∀ v H', (Ites x).yld i H v H' → g v σ H' fun σ2 H2 => tb { D with nx := N, ct := N, bk := D.nx } σ2 H2) := by
  refine ⟨fun i m σ H => m = x.cps.size - i ∧ i ≤ x.cps.size ∧ Pv i σ H, ⟨x.cps.size, by simp, Nat.zero_le _, h0⟩, ?_⟩
  rintro i m σ H ⟨rfl, hi, p⟩
  by_cases hlt : i < x.cps.size
  · refine .inr ⟨hlt, Pv (i + 1), fun σ' H' p' => ⟨x.cps.size - (i + 1), by omega, rfl, hlt, p'⟩, fun v H' y => ?_⟩
    obtain ⟨T, c, rfl, hT, hc, rfl⟩ := y
    exact hs i c T σ H hc p hT
  · have e : i = x.cps.size := by omega
    subst e
    exact .inl ⟨rfl, hd σ H p⟩
end G1
/-! for i, x in enumerate(tuple) -/
namespace G1
open PySem PySem.Spec PyProof.Rows L2
def enumObj (n : Addr) : Obj := { cls := .type "enumerate", data := .fields #[.none, .bool false, .ref n, rawInt 0, .none, .none] }
/-- enumerate(v) of what has an iterator -/
theorem meets_en {v : Value} {o : Obj} {Hh : Heap → Prop} (B : Begins v o Hh) : Meets (Builtin.«enumerate.__new__» ⟨[.type "enumerate", v], []⟩) (fun _ R s => Hh s.heap ∧
    R (.ok (.ret (.ref (s.heap.push o).objs.size))) { s with heap := (s.heap.push o).push (enumObj s.heap.objs.size) }) := by
  refine .of_wp fun pr ww AA RR s hyp => ?_
  obtain ⟨hp, gg, dd, tt, ss⟩ := s
  obtain ⟨h1, hyp⟩ := hyp
  have hsub := sub_enumerate
  have it : ∀ {A' : Around} {E' : Value → Shared → Prop} {Q' : Value → Shared → Prop}, Q' (.ref hp.objs.size) ⟨hp.push o, gg, dd, tt, ss⟩ → wpAny (model pr ww) A' (pyIter v) Q' E' ⟨hp, gg, dd, tt, ss⟩ := fun z => B.iter pr ww _ _ ⟨hp, gg, dd, tt, ss⟩ _ h1 z
  wp_walk using it
  refine wpAny_stack_any fun _ => wpAny_pure ?_
  split
  · rename_i cc _ _ _ _ _
    cases (cc == Value.type "enumerate") <;> (wp_walk using it; exact ⟨_, rfl, hyp⟩)
  · (wp_walk using it; exact ⟨_, rfl, hyp⟩)
theorem call_en {P : Program} {w : World} {A : Around} {E : Value → Shared → Prop} {s : Shared} {v : Value} {o : Obj} {Hh : Heap → Prop} {Q : Value → Shared → Prop} (B : Begins v o Hh) (h1 : Hh s.heap)
    (h : ∀ h', IsEnum h' (s.heap.objs.size + 1) s.heap.objs.size 0 .none → h'.get? s.heap.objs.size = some o → (∀ b x, s.heap.get? b = some x → h'.get? b = some x) → Q (.ref (s.heap.objs.size + 1)) { s with heap := h' }) :
    wpAny (model P w) A (call (.type "enumerate") [v]) Q E s := by
  refine callType_new F.called_enumerate (by decide) (F.typeCall_enumerate_1 _) (F.newCall_enumerate_1 _) (fun z => F.args_object_init_2 z _) F.entry_enumerate_new (meets_en B) ⟨h1, ?_⟩
  have z1 : (s.heap.push o).objs.size = s.heap.objs.size + 1 := Heap.size_push ..
  have e1 := Heap.get?_push_size (s.heap.push o) (o := enumObj s.heap.objs.size) rfl
  show _ ∧ _
  rw [z1]
  rw [z1] at e1
  exact ⟨⟨_, e1, rfl⟩, h _ e1 (Heap.get?_push_of_some _ (Heap.get?_push_size _ B.free)) fun b x z => Heap.get?_push_of_some _ (Heap.get?_push_of_some _ z)⟩
/-- the items of the tuple at a, each in a new pair with its place -/
def Iten (K : PySem.W.Frag) (a : Addr) : It :=
  ⟨fun i H => ∃ (xs : List V) (x : V), SqT K H a xs ∧ xs[i]? = some x, fun i H v H' => ∃ T x, v = .ref T ∧ H T = none ∧ H' = upd H T (.tup [.int (i : Nat), x]) ∧ ∀ xs, SqT K H a xs → xs[i]? = some x, fun i H => ∃ xs : List V, SqT K H a xs ∧ xs.length = i⟩
theorem turn_en {P : Program} {w : World} {K : PySem.W.Frag} {elts : List Expr} {kk : Nat} {tpos : Pos} (a e it : Addr) :
    Turn P w K (.Tuple elts kk tpos) (Iten K a) [e, it] e (fun i h => (∃ old, IsEnum h e it (0 + (i : Int)) old) ∧ h.IsTupleIter it a i ∧ e ≠ it ∧ e ≠ a ∧ a ≠ it) where
  mem := by simp
  obj := fun i h st b hb => by
    obtain ⟨⟨old, he⟩, ⟨o, ho, hc, hd⟩, _⟩ := st
    rcases (by simpa using hb : b = e ∨ b = it) with rfl | rfl
    · exact ⟨_, he, fun v z => nomatch z⟩
    · refine ⟨o, ho, fun v z => ?_⟩
      rw [hd] at z
      cases z
  keep := fun i h h' st k => by
    obtain ⟨⟨old, he⟩, hi, r⟩ := st
    exact ⟨⟨old, k e (by simp) _ he⟩, hi.at fun o q => k it (by simp) o q, r⟩
  item := by
    intro X hX hW hKK calm i pins s σ H E I away st hg
    subst hX hW hKK
    obtain ⟨he, hit, n1, n2, n3⟩ := st
    obtain ⟨xs, x, hq, hx⟩ := hg
    obtain ⟨its, rv, p, _⟩ := I.tuple hq
    obtain ⟨u, hu, ru⟩ := rv.get hx
    have D := Draws.tuple (prog := X.prog) (w := X.w) (A := X.A.in1) (I.ok.hd calm) it a n3 its.toArray
    have W := GoesN.enumFrom (elts := elts) (x1 := kk) (pos := tpos) 0 D e n1 (by simp [n1, n2]) (by simp)
    have il : i < its.toArray.size := by
      have := (List.getElem?_eq_some_iff.mp hu).1
      simpa using this
    refine W.goes i s _ E il ⟨he, hit, p⟩ fun v h' tk hY st' hk htk => ?_
    obtain ⟨T, t', y, ev, hT, hy, hO⟩ := hY
    have ey : y = u := by
      rw [List.getElem?_toArray, hu] at hy
      exact (Option.some.inj hy).symm
    subst ev ey
    obtain ⟨o, ho, hoc, n, hod⟩ := hO
    have new : ObjOk X.prog X.w (upd H T (.tup [.int (i : Nat), x])) h' T (.tup [.int (i : Nat), x]) :=
      ⟨by show 2 ≤ sizeLine; decide, [.int (0 + (i : Int)) t', y], .cons ⟨t', by rw [Int.zero_add]⟩ (.cons ru .nil), ⟨o, ho, hoc, n, hod⟩⟩
    have I1 : Inv X pins σ (upd H T (.tup [.int (i : Nat), x])) { s with heap := h', toks := tk } := I.turnedNew (ch := [e, it]) hk away hT new
    refine ⟨.ref T, _, I1, rfl, ⟨T, x, rfl, I.hok.fresh hT, rfl, fun ys hy => by rw [I.tuple_inj hy hq]; exact hx⟩, ⟨st'.1, st'.2.1, n1, n2, n3⟩, fun b hb => ?_⟩
    have hb' : b < s.heap.objs.size := by
      obtain ⟨old, he⟩ := he
      obtain ⟨o2, ho2, _⟩ := hit
      rcases (by simpa using hb : b = e ∨ b = it) with rfl | rfl
      · exact Heap.lt_size he
      · exact Heap.lt_size ho2
    rw [upd_ne (Nat.ne_of_lt (Nat.lt_of_lt_of_le hb' hT))]
    exact (away b hb).1
  done := by
    intro X hX hW hKK calm i pins s σ H E I away st hg
    subst hX hW hKK
    obtain ⟨he, hit, n1, n2, n3⟩ := st
    obtain ⟨xs, hq, hl⟩ := hg
    obtain ⟨its, rv, p, _⟩ := I.tuple hq
    have l2 := rv.length
    have D := Draws.tuple (prog := X.prog) (w := X.w) (A := X.A.in1) (I.ok.hd calm) it a n3 its.toArray
    have W := GoesN.enumFrom (elts := elts) (x1 := kk) (pos := tpos) 0 D e n1 (by simp [n1, n2]) (by simp)
    have ei : i = its.toArray.size := by
      rw [List.size_toArray]
      omega
    rw [ei] at he hit
    refine W.stops s _ E ⟨he, hit, p⟩ fun h' tk hk htk => ?_
    exact I.turnedL (t' := tk) (ch := [e, it]) hk away
  self := fun A i s Q E st q => wpAny_pyIter_enum st.1.choose_spec q
def iEnumT (K : PySem.W.Frag) (ta : TA) : TI := fun σ H R => ta σ H fun vs H1 => ∃ a xs, vs = [.ref a] ∧ SqT K H1 a xs ∧ R (Iten K a) H1
theorem pi_enumT {X : Cx} {e : Expr} {ta : TA} {p pos tpos : Pos} {elts : List Expr} {kk : Nat} (hg : Gl X "enumerate") (hm : X.mg "enumerate" = none) (ha : PA X [e] ta) (hs : starEach [e] X.env = [(false, eval e X.env)] := by rfl) :
    PI X (.Tuple elts kk tpos) (.Call (.Name "enumerate" p) [e] [] pos) (iEnumT X.K ta) := by
  refine ⟨fun pn s σ H R Iv told => Call_ (ld_blt Iv hg hm boot_enumerate (PyProof.Rows.callWith_type1 (thn (ha.run pos pn s σ H _ Iv told) ?_) hs rfl))⟩
  rintro us s1 ⟨vs, H1, I1, r1, a, xs, rfl, hq, q⟩
  cases r1 with
  | cons r rr =>
    cases rr
    cases r
    obtain ⟨its, rv, p', _⟩ := I1.tuple hq
    have la : a < s1.heap.objs.size := by
      obtain ⟨o, ho, _⟩ := p'
      exact Heap.lt_size ho
    refine call_en (begins_tuple a its.toArray) p' fun h' he hit hk => wpAny_pyIter_enum he ?_
    refine ⟨s1.heap.objs.size + 1, [s1.heap.objs.size + 1, s1.heap.objs.size], _, _, H1, rfl, I1.kept (t' := s1.toks) hk, turn_en a (s1.heap.objs.size + 1) s1.heap.objs.size, ⟨⟨.none, he⟩, ⟨_, hit, rfl, rfl⟩, Nat.succ_ne_self _, ?_, ?_⟩, fun b hb => ?_, q⟩
    · exact fun z => absurd la (by rw [← z]; exact Nat.not_lt.mpr (Nat.le_succ _))
    · exact Nat.ne_of_lt la
    · have up : s1.heap.objs.size ≤ b := by
        rcases (by simpa using hb : b = s1.heap.objs.size + 1 ∨ b = s1.heap.objs.size) with rfl | rfl
        · exact Nat.le_succ _
        · exact Nat.le_refl _
      exact I1.fpOk up (I1.hok.fresh up)
theorem lc_enumT {K : PySem.W.Frag} {a : Addr} {xs : List V} {g : TG} {tt : TT} {te : TE} {vs : List Nat} {σ : L2.St} {H1 : Hp} {D : Addr} {Qd : Hp → Prop} (Pv : Nat → Hp → Prop) (h0 : Pv 0 (upd H1 D (.lst [])))
    (hq : ∀ i H, Pv i H → SqT K H a xs)
    (hs : ∀ i x T H, xs[i]? = some x → Pv i H → H T = none → g (.ref T) (wipe σ vs) (upd H T (.tup [.int (i : Nat), x])) fun σ2 H2 => wipe σ2 vs = wipe σ vs ∧ tt σ2 H2 fun b H3 =>
      if b = true then te σ2 H3 fun y H4 => ∃ acc, H4 D = some (.lst acc) ∧ acc.length < sizeLine ∧ Pv (i + 1) (upd H4 D (.lst (acc ++ [y]))) else Pv (i + 1) H3) (hd : ∀ H, Pv xs.length H → Qd H) :
    ∃ W : Nat → Nat → Hp → Prop, (∃ m, W 0 m (upd H1 D (.lst []))) ∧ ∀ i m H, W i m H →
      ((Iten K a).stop i H ∧ Qd H) ∨ ((Iten K a).go i H ∧ ∃ Nx : Hp → Prop, (∀ H', Nx H' → ∃ m', m' < m ∧ W (i + 1) m' H') ∧ ∀ v H', (Iten K a).yld i H v H' → g v (wipe σ vs) H' fun σ2 H2 => wipe σ2 vs = wipe σ vs ∧ tt σ2 H2 fun b H3 =>
        if b = true then te σ2 H3 fun y H4 => ∃ acc, H4 D = some (.lst acc) ∧ acc.length < sizeLine ∧ Nx (upd H4 D (.lst (acc ++ [y]))) else Nx H3) := by
  refine ⟨fun i m H => m = xs.length - i ∧ i ≤ xs.length ∧ Pv i H, ⟨xs.length, by simp, Nat.zero_le _, h0⟩, ?_⟩
  rintro i m H ⟨rfl, hi, p⟩
  have sq := hq i H p
  by_cases hlt : i < xs.length
  · refine .inr ⟨⟨xs, xs[i], sq, List.getElem?_eq_getElem hlt⟩, Pv (i + 1), fun H' p' => ⟨xs.length - (i + 1), by omega, rfl, hlt, p'⟩, fun v H' y => ?_⟩
    obtain ⟨T, x, rfl, hT, rfl, hx⟩ := y
    exact hs i x T H (hx xs sq) p hT
  · have e : i = xs.length := by omega
    subst e
    exact .inl ⟨⟨xs, sq, rfl⟩, hd H p⟩
end G1
/-! repr of None and of numbers -/
namespace G1
open PySem PySem.Spec PyProof.Rows L2
def shO0 : V → Str
  | .int i => Str.ofString (toString i)
  | _ => "None"
/-- the text of None or of a number -/
@[irreducible] def shO (v : V) : Str := shO0 v
/-- None, or a number that is not too great -/
def Leaf (v : V) : Prop := v = .non ∨ ∃ i : Int, v = .int i ∧ i.natAbs.log2 < 1920
theorem leaf_non : Leaf .non := .inl rfl
theorem leaf_int {i : Int} (h0 : 0 ≤ i) (h1 : i < 2 ^ 1000) : Leaf (.int i) := by
  refine .inr ⟨i, rfl, ?_⟩
  obtain ⟨n, rfl⟩ : ∃ n : Nat, i = (n : Int) := ⟨i.toNat, by omega⟩
  have hn : n < 2 ^ 1000 := by
    have e : ((2 : Int) ^ 1000) = ((2 ^ 1000 : Nat) : Int) := by norm_cast
    rw [e] at h1
    exact Int.ofNat_lt.mp h1
  by_cases z : n = 0
  · subst z
    decide
  · have : n.log2 < 1000 := (Nat.log2_lt z).mpr hn
    show n.log2 < 1920
    omega
section
variable {X : Cx}
theorem call_reprO : CallR X (.builtin "repr") (fun xs H Q => ∃ v : V, xs = [v] ∧ Leaf v ∧ Q (.str (shO v)) H) := by
  intro pn s σ H xs us Q I r told
  obtain ⟨v, rfl, lf, q⟩ := told
  obtain ⟨u, rfl, ru⟩ := vals1 r
  unfold shO at q
  rcases lf with rfl | ⟨i, rfl, hi⟩
  · obtain rfl : u = Value.none := ru
    exact PySem.P.repr_of_none ⟨.str _, H, I.tok _, ⟨_, rfl⟩, q⟩
  · obtain ⟨t, rfl⟩ := ru
    exact PySem.P.repr_of_int hi ⟨.str _, H, I.tok _, ⟨_, rfl⟩, q⟩
end
end G1
/-! repr of lists of numbers and None -/
namespace G1
open PySem PySem.Spec PyProof.Rows L2
/-- None, or a number below 10 ** 30 -/
def Num (d : PyData) : Prop := d = .none ∨ ∃ i : Int, d = .int i ∧ 0 ≤ i ∧ i < 10 ^ 30
theorem num_weight {d : PyData} (h : Num d) : d.weight ≤ 101 := by
  rcases h with rfl | ⟨i, rfl, h0, h1⟩
  · exact Nat.zero_le _
  · show (if i == 0 then 0 else i.natAbs.log2 + 1) ≤ 101
    split
    · omega
    · obtain ⟨n, rfl⟩ : ∃ n : Nat, i = (n : Int) := ⟨i.toNat, by omega⟩
      rename_i hz
      have z : n ≠ 0 := fun e => by rw [e] at hz; exact hz rfl
      have hn : n < 2 ^ 100 := by
        have e : (10 : Int) ^ 30 < ((2 ^ 100 : Nat) : Int) := by decide
        omega
      have : n.log2 < 100 := (Nat.log2_lt z).mpr hn
      show n.log2 + 1 ≤ 101
      omega
theorem num_short {d : PyData} (h : Num d) : d.leavesShort 40 = true := by
  rcases h with rfl | ⟨i, rfl, h0, h1⟩
  · rfl
  · show decide ((PyData.shown (.int i)).length ≤ 40) = true
    rw [decide_eq_true_eq]
    have e := PyProof.Rows.toString_length_le h0 (k := 30) (by decide) h1
    have e2 : (PyData.shown (.int i)).length = (Str.ofString (toString i)).length := rfl
    omega
theorem log_ok {i : Int} (h0 : 0 ≤ i) (h1 : i < 10 ^ 30) : i.natAbs.log2 < 1920 := by
  rcases leaf_int h0 (Int.lt_trans h1 (by decide)) with e | ⟨j, e, h⟩
  · cases e
  · obtain rfl := V.int.inj e
    exact h
theorem num_all : ∀ ds : List PyData, (∀ d ∈ ds, Num d) → PyData.showableAll ds = true ∧ PyData.hasDictAll ds = false ∧ PyData.depthAll ds ≤ 20 ∧ PyData.leavesShortAll 40 ds = true ∧ PyData.weightAll ds ≤ 102 * ds.length
  | [], _ => by simp [PyData.showableAll, PyData.hasDictAll, PyData.depthAll, PyData.leavesShortAll, PyData.weightAll]
  | d :: ds, h => by
    obtain ⟨h1, h2, h3, h4, h5⟩ := num_all ds fun e he => h e (List.mem_cons_of_mem _ he)
    have n := h d List.mem_cons_self
    have nw := num_weight n
    have ns := num_short n
    refine ⟨?_, ?_, ?_, ?_, ?_⟩
    · rcases n with rfl | ⟨i, rfl, i0, i1⟩
      · simp [PyData.showableAll, PyData.showable, h1]
      · simp [PyData.showableAll, PyData.showable, h1, log_ok i0 i1]
    · rcases n with rfl | ⟨i, rfl, _⟩ <;> simp [PyData.hasDictAll, PyData.hasDict, h2]
    · rcases n with rfl | ⟨i, rfl, _⟩ <;> (simp only [PyData.depthAll, PyData.depth]; omega)
    · simp [PyData.leavesShortAll, h4, ns]
    · simp only [PyData.weightAll, List.length_cons]
      omega
theorem repr_nums {K : PySem.W.Frag} {H : Hp} {R : PyData → Prop} {a : Addr} {xs : List V} (ds : List PyData) (e : H a = some (.lst xs)) (hd : DpAll K H xs ds) (hs : ∀ d ∈ ds, Num d) (hl : ds.length ≤ 40) (q : R (.list ds)) :
    ∃ (a' : Addr) (d' : PyData), [V.ref a] = [V.ref a'] ∧ Dp K H (.ref a') d' ∧ d'.showable = true ∧ d'.hasDict = false ∧ d'.depth ≤ 60 ∧ d'.shown.length ≤ sizeLine ∧ R d' := by
  obtain ⟨h1, h2, h3, h4, h5⟩ := num_all ds hs
  refine ⟨a, .list ds, rfl, .lst (.inl (.inl e)) hd, ?_, ?_, ?_, ?_, q⟩
  · simp only [PyData.showable]; exact h1
  · simp only [PyData.hasDict]; exact h2
  · simp only [PyData.depth]; omega
  · have s := PyData.shown_le 40 (by decide) (.list ds) (by simp only [PyData.leavesShort]; exact h4)
    simp only [PyData.weight] at s
    have : 102 * ds.length ≤ 102 * 40 := Nat.mul_le_mul_left _ hl
    exact Nat.le_trans s (Nat.le_trans (by omega : 42 * PyData.weightAll ds + 40 ≤ 200000) (by decide))
end G1
/-! draws from a dict: two lists, a sum and a count under a name of its own -/
namespace G1
open PySem PySem.Spec PyProof.Rows L2
/-- the dict's pairs -/
def dkv (m : Str) (g c : Addr) (W k : Int) : List (Key × V) := [(Sum.inr ("great" : Str), .ref g), (Sum.inr ("cells" : Str), .ref c), (Sum.inr ("whole" : Str), .int W), (Sum.inr m, .int k)]
/-- the deck at w, its great numbers at g -/
def DkAt (m : Str) (w g : Addr) (H : Hp) : Prop := ∃ (c : Addr) (gs cs : List Int) (W k : Int), w ≠ g ∧ c ≠ g ∧ c ≠ w ∧ H w = some (.dK (dkv m g c W k)) ∧
  H g = some (.lst (gs.map V.int)) ∧ H c = some (.lst (cs.map V.int)) ∧ 0 < cs.length ∧ gs.length ≤ 1000 ∧ cs.length ≤ 1000
section
variable {m : Str} {w g p : Addr} {H H' : Hp} {o : HO}
theorem DkAt.same (D : DkAt m w g H) (s : Same H H') : DkAt m w g H' := by
  obtain ⟨c, gs, cs, W, k, h1, h2, h3, h4, h5, h6, h7⟩ := D
  exact ⟨c, gs, cs, W, k, h1, h2, h3, s _ _ h4, s _ _ h5, s _ _ h6, h7⟩
theorem DkAt.fresh (D : DkAt m w g H) (h : H p = none) : p ≠ w ∧ p ≠ g := by
  obtain ⟨c, gs, cs, W, k, h1, h2, h3, h4, h5, h6, h7⟩ := D
  exact ⟨(ne_of_none h4 h).symm, (ne_of_none h5 h).symm⟩
theorem new_ofK (D : DkAt m w g H) (hp : H p = none) (e : upd H p o = H') : Same H H' ∧ DkAt m w g H' ∧ At w g H' p o := by
  subst e
  exact ⟨same_new hp, D.same (same_new hp), (D.fresh hp).1, (D.fresh hp).2, upd_same⟩
theorem DkAt.tup {a : Addr} {xs : List V} (D : DkAt m w g H) (h : H a = some (.tup xs)) : At w g H a (.tup xs) := by
  obtain ⟨c, gs, cs, W, k, h1, h2, h3, h4, h5, h6, h7⟩ := D
  exact ⟨ne_of h h4 (by intro z; cases z), ne_of h h5 (by intro z; cases z), h⟩
end
theorem dk_get {m : Str} {g c : Addr} {W k : Int} (hm : Sum.inr m ≠ (Sum.inr ("great" : Str) : Key) ∧ Sum.inr m ≠ (Sum.inr ("cells" : Str) : Key) ∧ Sum.inr m ≠ (Sum.inr ("whole" : Str) : Key)) :
    valV (dkv m g c W k) (Sum.inr ("great" : Str)) = some (.ref g) ∧ valV (dkv m g c W k) (Sum.inr ("cells" : Str)) = some (.ref c) ∧ valV (dkv m g c W k) (Sum.inr ("whole" : Str)) = some (.int W) ∧ valV (dkv m g c W k) (Sum.inr m) = some (.int k) := by
  have e1 : (Sum.inr ("great" : Str) : Key) ≠ Sum.inr ("cells" : Str) := by decide
  have e2 : (Sum.inr ("great" : Str) : Key) ≠ Sum.inr ("whole" : Str) := by decide
  have e3 : (Sum.inr ("cells" : Str) : Key) ≠ Sum.inr ("whole" : Str) := by decide
  refine ⟨?_, ?_, ?_, ?_⟩
  · simp [dkv, valV]
  · simp [dkv, valV, e1]
  · simp [dkv, valV, e2, e3]
  · simp [dkv, valV, hm.1.symm, hm.2.1.symm, hm.2.2.symm]
end G1
/-! draws from a dict, the list of cells named; objects apart from all of it -/
namespace G1
open PySem PySem.Spec PyProof.Rows L2
def DkC (m : Str) (w g c : Addr) (H : Hp) : Prop := ∃ (gs cs : List Int) (W k : Int), w ≠ g ∧ c ≠ g ∧ c ≠ w ∧ H w = some (.dK (dkv m g c W k)) ∧
  H g = some (.lst (gs.map V.int)) ∧ H c = some (.lst (cs.map V.int)) ∧ 0 < cs.length ∧ gs.length ≤ 1000 ∧ cs.length ≤ 1000
/-- o stands at a, apart from the deck -/
structure Ac (w g c : Addr) (H : Hp) (a : Addr) (o : HO) : Prop where
  nw : a ≠ w
  ng : a ≠ g
  nc : a ≠ c
  at_ : H a = some o
theorem Ac.go {w g c : Addr} {H H' : Hp} {a : Addr} {o : HO} (x : Ac w g c H a o) (s : Go w g H H') : Ac w g c H' a o := ⟨x.nw, x.ng, x.nc, s a o x.nw x.ng x.at_⟩
theorem Ac.same {w g c : Addr} {H H' : Hp} {a : Addr} {o : HO} (x : Ac w g c H a o) (s : Same H H') : Ac w g c H' a o := ⟨x.nw, x.ng, x.nc, s a o x.at_⟩
section
variable {m : Str} {w g c p : Addr} {H H' : Hp} {o : HO}
theorem DkC.same (D : DkC m w g c H) (s : Same H H') : DkC m w g c H' := by
  obtain ⟨gs, cs, W, k, h1, h2, h3, h4, h5, h6, h7⟩ := D
  exact ⟨gs, cs, W, k, h1, h2, h3, s _ _ h4, s _ _ h5, s _ _ h6, h7⟩
theorem DkC.fresh (D : DkC m w g c H) (h : H p = none) : p ≠ w ∧ p ≠ g ∧ p ≠ c := by
  obtain ⟨gs, cs, W, k, h1, h2, h3, h4, h5, h6, h7⟩ := D
  exact ⟨(ne_of_none h4 h).symm, (ne_of_none h5 h).symm, (ne_of_none h6 h).symm⟩
theorem new_ofC (D : DkC m w g c H) (hp : H p = none) (e : upd H p o = H') : Same H H' ∧ DkC m w g c H' ∧ Ac w g c H' p o := by
  subst e
  exact ⟨same_new hp, D.same (same_new hp), (D.fresh hp).1, (D.fresh hp).2.1, (D.fresh hp).2.2, upd_same⟩
theorem DkC.tup {a : Addr} {xs : List V} (D : DkC m w g c H) (h : H a = some (.tup xs)) : Ac w g c H a (.tup xs) := by
  obtain ⟨gs, cs, W, k, h1, h2, h3, h4, h5, h6, h7⟩ := D
  exact ⟨ne_of h h4 (by intro z; cases z), ne_of h h5 (by intro z; cases z), ne_of h h6 (by intro z; cases z), h⟩
/-- what stands apart is written -/
theorem DkC.upd {u : HO} (D : DkC m w g c H) (n1 : p ≠ w) (n2 : p ≠ g) (n3 : p ≠ c) : DkC m w g c (L2.upd H p u) := by
  obtain ⟨gs, cs, W, k, h1, h2, h3, h4, h5, h6, h7⟩ := D
  exact ⟨gs, cs, W, k, h1, h2, h3, (upd_ne n1.symm).trans h4, (upd_ne n2.symm).trans h5, (upd_ne n3.symm).trans h6, h7⟩
theorem Ac.upd {a : Addr} {u : HO} (x : Ac w g c H a o) (n : a ≠ p) : Ac w g c (L2.upd H p u) a o := ⟨x.nw, x.ng, x.nc, (upd_ne n).trans x.at_⟩
theorem Ac.set {u : HO} (x : Ac w g c H p o) : Ac w g c (L2.upd H p u) p u := ⟨x.nw, x.ng, x.nc, upd_same⟩
theorem go_upd' {D : Addr} {u : HO} {H1 : Hp} (S : Go w g H H1) (h : H D = none) : Go w g H (L2.upd H1 D u) := fun x v h1 h2 e => by
  rw [upd_ne (ne_of_none e h)]
  exact S x v h1 h2 e
end
end G1
/-! tuple[::-1] -/
namespace G1
open PySem PySem.Spec PyProof.Rows L2 HT
section
variable {prog : Program} {w : World} {A : Around} {E : Value → Shared → Prop} {s : Shared}
theorem adjust_rev (n : Nat) : Builtin.Slice.sliceAdjust none none (-1) (n : Int) = ((n : Int) - 1, -1) := by
  unfold Builtin.Slice.sliceAdjust
  simp
theorem places_rev (n : Nat) : Builtin.Slice.slicePlaces ((n : Int) - 1) (-1) (-1) = n := by
  unfold Builtin.Slice.slicePlaces
  have h1 : ¬ ((-1 : Int) > 0) := by omega
  simp only [h1, if_false]
  rw [show (- -1 : Int) = 1 by decide, Int.ediv_one]
  split <;> omega
theorem sliceApplied_rev {sl : Addr} {vs : Value} {n : Nat} {Q : Int × Int × Nat → Shared → Prop} (hs : s.heap.IsSliceOf sl .none .none vs) (ps : IsPart vs (some (-1)))
    (h : Q ((n : Int) - 1, -1, n) s) : wpAny (model prog w) A (Builtin.Slice.sliceApplied (.ref sl) (pure (n : Int))) Q E s := by
  obtain ⟨os, hos, hcs, hds⟩ := id hs
  unfold Builtin.Slice.sliceApplied Builtin.Slice.sliceFields
  refine wpAny_bind (wpAny_bind (wpAny_field hos hds (x := .none) rfl (wpAny_bind (wpAny_field hos hds (x := .none) rfl (wpAny_bind (wpAny_field hos hds (x := vs) rfl (wpAny_pure ?_)))))))
  refine wpAny_bind (slicePart_ ps ?_)
  show wpAny _ _ (if ((-1 : Int) == 0) = true then _ else _) _ _ s
  rw [if_neg (by decide)]
  refine wpAny_bind (slicePart_ .none (wpAny_bind (slicePart_ .none (wpAny_bind (wpAny_pure ?_)))))
  show wpAny _ _ (match Builtin.Slice.sliceAdjust none none (-1) (n : Int) with | (lo, hi) => pure (lo, (-1 : Int), Builtin.Slice.slicePlaces lo hi (-1))) _ _ s
  rw [adjust_rev n]
  show wpAny _ _ (pure ((n : Int) - 1, (-1 : Int), Builtin.Slice.slicePlaces ((n : Int) - 1) (-1) (-1))) _ _ s
  rw [places_rev]
  exact wpAny_pure h
theorem pick_rev (xs : Array Value) : ((List.range xs.size).filterMap fun (m : Nat) => xs[((xs.size : Int) - 1 + (m : Int) * -1).toNat]?).toArray = xs.toList.reverse.toArray := by
  have e : (fun (m : Nat) => xs[((xs.size : Int) - 1 + (m : Int) * -1).toNat]?) = (xs[·]?) ∘ fun m => xs.size - 1 - m := by
    funext m
    have : ((xs.size : Int) - 1 + (m : Int) * -1).toNat = xs.size - 1 - m := by omega
    rw [this]
    rfl
  rw [e, ← List.filterMap_map, PySem.W.krv_range, List.filterMap_reverse, PySem.W.krv_all]
theorem getItem_tuple_rev {t sl : Addr} {items : Array Value} {vs : Value} {Q : Value → Shared → Prop} (ht : IsTup s.heap t items) (hs : s.heap.IsSliceOf sl .none .none vs) (ps : IsPart vs (some (-1)))
    (h : Q (.ref s.heap.objs.size) { s with heap := s.heap.push { cls := .type "tuple", data := .seq items.toList.reverse.toArray } })
    (hsz : items.size ≤ sizeLine) : wpAny (model prog w) A (getItem (.ref t) (.ref sl)) Q E s := by
  have htake : sizeOk (.seq items.toList.reverse.toArray) := by
    show items.toList.reverse.toArray.size ≤ sizeLine
    rw [List.size_toArray, List.length_reverse, Array.length_toList]
    exact hsz
  obtain ⟨os, hos, hcs, hds⟩ := id hs
  have hTs : s.TypeIs (.ref sl) "slice" := ⟨os, hos, hcs⟩
  unfold getItem
  try with_reducible refine wpAny_holding ?_
  first | refine wpAny_bind (wpAny_pure ?_) | skip
  refine wpAny_bind (wpAny_sequenceKey ht.typeIs (by decide) ?_)
  refine wpAny_bind (wpAny_callSpecial?_slot (name := Str.ofString "__getitem__") ht.typeIs PyProof.Rows.slot_tuple_getitem
    (wpAny_call_entry PyProof.Rows.slot_tuple_getitem ht.typeIs entry_tuple_getitem ?_ (args_tuple_getitem _ _)))
  show wpAny _ _ (Builtin.Tuple.tupleItemsOf (.ref t) >>= _) _ _ s
  refine wpAny_bind (tupleItemsOf_ ht ?_)
  refine wpAny_bind (wpAny_typeOf hTs ?_)
  rw [if_pos (by decide)]
  refine wpAny_bind (sliceApplied_rev hs ps ?_)
  have hno : ¬ ((((items.size : Int) - 1) == 0 && (-1 : Int) == 1 && items.size == items.size) = true) := by
    intro q
    rw [Bool.and_eq_true, Bool.and_eq_true] at q
    exact absurd q.1.2 (by decide)
  show wpAny _ _ (if (((items.size : Int) - 1) == 0 && (-1 : Int) == 1 && items.size == items.size) = true then _ else _) _ _ s
  rw [if_neg hno, pick_rev]
  first
    | exact wpAny_bind (m := Builtin.Tuple.tupleExact _) (wpAny_newObj_type (wpAny_pure ⟨_, rfl, wpAny_pure h⟩) htake)
    | exact wpAny_bind (m := Builtin.Tuple.tupleExact _) (wpAny_newObj_type (wpAny_bind (wpAny_pure (wpAny_pure ⟨_, rfl, wpAny_pure h⟩))) htake)
    | exact wpAny_bind (wpAny_bind (m := Builtin.Tuple.tupleExact _) (wpAny_newObj_type (wpAny_pure (wpAny_pure ⟨_, rfl, wpAny_pure h⟩)) htake))
    | exact wpAny_bind (wpAny_bind (m := Builtin.Tuple.tupleExact _) (wpAny_newObj_type (wpAny_pure ⟨_, rfl, wpAny_pure h⟩) htake))
end
section
variable {X : Cx}
def tRevT (K : PySem.W.Frag) (te : TE) : TE := fun σ H Q => te σ H fun x H1 => ∃ a xs, x = .ref a ∧ SqT K H1 a xs ∧ ∀ p, H1 p = none → Q (.ref p) (upd H1 p (.tup xs.reverse))
theorem pe_revT {e : Expr} {te : TE} {k : Nat} {p1 p2 p3 pos : Pos} (he : PE X e te) : PE X (.Subscript e (.Slice none none (some (.UnaryOp .USub (.Constant (.int 1) k p1) p2)) p3) pos) (tRevT X.K te) := by
  refine ⟨fun pins s σ H Q I h => ?_⟩
  refine Subscript_ (thn (he.run pins s σ H _ I h) fun v s1 ⟨x, H1, I1, r1, q1⟩ => ?_)
  obtain ⟨a, xs, ex, hx, q⟩ := q1
  subst ex
  cases r1
  have hst : PO X (some (.UnaryOp .USub (.Constant (.int 1) k p1) p2)) (tPart (tUn (rU fun i => .int (-i)) (tC (.int 1)))) := po_some (pe_un un_neg pe_int)
  refine wpAny_Slice ?_
  rw [evalPart_none]
  refine wpAny_pure (wpAny_pure ?_)
  refine thn (hst.run pins s1 σ H1 (fun o H4 => o = some (-1) ∧ H4 = H1) I1 ⟨1, rfl, -1, rfl, rfl, rfl⟩) fun vs s4 ⟨o, H4, I4, ps, eo, e4⟩ => ?_
  subst eo e4
  have I5 : Inv X pins σ H4 { s4 with heap := s4.heap.push { cls := .type "slice", data := .fields #[.none, .none, vs] } } := I4.kept (t' := s4.toks) fun b ob q => Heap.get?_push_of_some _ q
  obtain ⟨its, r, ht, hz⟩ := I5.tuple hx
  have hlen := r.length
  show wpAny (model X.prog X.w) X.A (subscriptTail e (.Slice none none (some (.UnaryOp .USub (.Constant (.int 1) k p1) p2)) p3) (.ref a) (.ref s4.heap.objs.size)) (EP X pins σ Q) X.xe { s4 with heap := s4.heap.push { cls := .type "slice", data := .fields #[.none, .none, vs] } }
  refine tail_any (ops := [.ref a, .ref s4.heap.objs.size]) ht.typeIs (PyProof.Rows.slot_tuple_getitem.lookup) ?_ (by with_unfolding_all rfl)
  refine getItem_tuple_rev ht (Heap.IsSliceOf.new _ .none .none vs) ps ?_ (by rw [List.size_toArray]; omega)
  refine ⟨.ref _, _, I5.laid (t' := s4.toks) (o := .tup xs.reverse) (fun b ob q => Heap.get?_push_of_some _ q) (Nat.le_refl _) ?_, rfl, q _ (I5.hok.fresh (Nat.le_refl _))⟩
  exact ⟨by rw [List.length_reverse]; exact hz, _, r.reverse, IsTup.new _ _⟩
end
end G1
/-! zip of a tuple and a list -/
namespace G1
open PySem PySem.Spec PyProof.Rows L2
/-- the items of the tuple at a and of the list at c beside one another -/
def ItzM (K : PySem.W.Frag) (a c : Addr) : It :=
  ⟨fun i H => ∃ (xs ys : List V) (x y : V), SqT K H a xs ∧ SqL K H c ys ∧ xs[i]? = some x ∧ ys[i]? = some y,
   fun i H v H' => ∃ T x y, v = .ref T ∧ H T = none ∧ H' = upd H T (.tup [x, y]) ∧ (∀ xs, SqT K H a xs → xs[i]? = some x) ∧ ∀ ys, SqL K H c ys → ys[i]? = some y,
   fun i H => ∃ xs ys : List V, SqT K H a xs ∧ SqL K H c ys ∧ i = min xs.length ys.length⟩
theorem sepM {a c b : Addr} (ha : a < b) (hc : c < b) : ZipSep2 (b + 4) (b + 2) (b + 3) b (b + 1) [b, a] [b + 1, c] := by
  have n : ∀ (i j : Nat), i ≠ j → b + i ≠ b + j := fun i j h z => h (Nat.add_left_cancel z)
  have la : ∀ i : Nat, b + i ≠ a := fun i => Nat.ne_of_gt (Nat.lt_of_lt_of_le ha (Nat.le_add_right b i))
  have lc : ∀ i : Nat, b + i ≠ c := fun i => Nat.ne_of_gt (Nat.lt_of_lt_of_le hc (Nat.le_add_right b i))
  have nm : ∀ x y z : Addr, x ≠ y → x ≠ z → x ∉ [y, z] := fun x y z h1 h2 m => by
    rcases (by simpa using m : x = y ∨ x = z) with e | e
    · exact h1 e
    · exact h2 e
  exact ⟨n 2 4 (by decide), n 3 4 (by decide), n 2 3 (by decide), n 2 0 (by decide), by simp, nm _ _ _ (n 4 0 (by decide)) (la 4), nm _ _ _ (n 3 0 (by decide)) (la 3),
    n 2 1 (by decide), by simp, nm _ _ _ (n 4 1 (by decide)) (lc 4), nm _ _ _ (n 3 1 (by decide)) (lc 3), nm _ _ _ (n 0 1 (by decide)) (lc 0), nm _ _ _ (n 1 0 (by decide)) (la 1)⟩
def tnM (a c b : Addr) (i : Nat) (h : Heap) : Prop :=
  IsZip h (b + 4) (b + 2) (b + 3) .none ∧ IsTupOf2 h (b + 2) (.ref b) (.ref (b + 1)) ∧ (∃ u v, IsTupOf2 h (b + 3) u v) ∧ h.IsTupleIter b a i ∧ h.IsListIter (b + 1) c i
theorem turn_zipM {P : Program} {w : World} {K : PySem.W.Frag} {elts : List Expr} {kk : Nat} {tpos : Pos} {a c b : Addr} (ha : a < b) (hc : c < b) :
    Turn P w K (.Tuple elts kk tpos) (ItzM K a c) [b, b + 1, b + 2, b + 3, b + 4] (b + 4) (tnM a c b) where
  mem := by simp
  obj := fun i h st x hx => by
    obtain ⟨hz, h2, ⟨u, v, h3⟩, ⟨o1, q1, _, d1⟩, ⟨o2, q2, _, d2⟩⟩ := st
    rcases (by simpa using hx : x = b ∨ x = b + 1 ∨ x = b + 2 ∨ x = b + 3 ∨ x = b + 4) with rfl | rfl | rfl | rfl | rfl
    · exact ⟨o1, q1, fun v z => by rw [d1] at z; cases z⟩
    · exact ⟨o2, q2, fun v z => by rw [d2] at z; cases z⟩
    · exact ⟨_, h2, fun v z => nomatch z⟩
    · exact ⟨_, h3, fun v z => nomatch z⟩
    · exact ⟨_, hz, fun v z => nomatch z⟩
  keep := fun i h h' st k => by
    obtain ⟨hz, h2, ⟨u, v, h3⟩, ⟨o1, q1, r1⟩, ⟨o2, q2, r2⟩⟩ := st
    exact ⟨k _ (by simp) _ hz, k _ (by simp) _ h2, ⟨u, v, k _ (by simp) _ h3⟩, ⟨o1, k _ (by simp) _ q1, r1⟩, ⟨o2, k _ (by simp) _ q2, r2⟩⟩
  item := by
    intro X hX hW hKK calm i pins s σ H E I away st hg
    subst hX hW hKK
    obtain ⟨xs, ys, x, y, hqx, hqy, hx, hy⟩ := hg
    obtain ⟨hz, hTI, hTO, st1, st2⟩ := st
    obtain ⟨its, rv, p1, _⟩ := I.tuple hqx
    obtain ⟨its2, rv2, p2, _⟩ := I.list hqy
    obtain ⟨u, hu, ru⟩ := rv.get hx
    obtain ⟨u2, hu2, ru2⟩ := rv2.get hy
    have D1 := Draws.tuple (prog := X.prog) (w := X.w) (A := X.A.in1) (I.ok.hd calm) b a (Nat.ne_of_lt ha) its.toArray
    have D2 := Draws.list (prog := X.prog) (w := X.w) (A := X.A.in1) (I.ok.hd calm) (b + 1) c (Nat.ne_of_lt (Nat.lt_succ_of_lt hc)) its2.toArray
    have W := GoesN.zip2 (elts := elts) (x1 := kk) (pos := tpos) (sepM ha hc) D1 D2
    have il : i < min its.toArray.size its2.toArray.size := by
      have e1 := (List.getElem?_eq_some_iff.mp hu).1
      have e2 := (List.getElem?_eq_some_iff.mp hu2).1
      rw [List.size_toArray, List.size_toArray]
      omega
    refine W.goes i s _ E il ⟨hz, hTI, hTO, ⟨st1, p1⟩, ⟨st2, p2.isList⟩⟩ fun v h' tk hY st' hk htk => ?_
    obtain ⟨T, y1, y2, ev, hT, hy1, hy2, hO⟩ := hY
    have ey1 : y1 = u := by
      rw [List.getElem?_toArray, hu] at hy1
      exact (Option.some.inj hy1).symm
    have ey2 : y2 = u2 := by
      rw [List.getElem?_toArray, hu2] at hy2
      exact (Option.some.inj hy2).symm
    subst ev ey1 ey2
    obtain ⟨o, ho, hoc, n, hod⟩ := hO
    have new : ObjOk X.prog X.w (upd H T (.tup [x, y])) h' T (.tup [x, y]) :=
      ⟨by show 2 ≤ sizeLine; decide, [y1, y2], .cons ru (.cons ru2 .nil), ⟨o, ho, hoc, n, hod⟩⟩
    have I1 : Inv X pins σ (upd H T (.tup [x, y])) { s with heap := h', toks := tk } :=
      I.turnedNew (ch := [b, b + 1, b + 2, b + 3, b + 4]) (fun q o hq e => hk q o (fun z => hq (by
        rcases (by simpa using z : q = b + 4 ∨ q = b + 3 ∨ q = b ∨ q = b + 1) with rfl | rfl | rfl | rfl <;> simp)) e) away hT new
    refine ⟨.ref T, _, I1, rfl, ⟨T, x, y, rfl, I.hok.fresh hT, rfl, fun zs hq => by rw [I.tuple_inj hq hqx]; exact hx, fun zs hq => by rw [I.list_inj hq hqy]; exact hy⟩, ⟨st'.1, st'.2.1, st'.2.2.1, st'.2.2.2.1.1, st'.2.2.2.2.1⟩, fun q hq => ?_⟩
    have hb' : q < s.heap.objs.size := by
      have e4 : b + 4 < s.heap.objs.size := Heap.lt_size hz
      have l : ∀ j : Nat, j ≤ 4 → b + j < s.heap.objs.size := fun j hj => Nat.lt_of_le_of_lt (Nat.add_le_add_left hj b) e4
      rcases (by simpa using hq : q = b ∨ q = b + 1 ∨ q = b + 2 ∨ q = b + 3 ∨ q = b + 4) with rfl | rfl | rfl | rfl | rfl
      · exact l 0 (by decide)
      · exact l 1 (by decide)
      · exact l 2 (by decide)
      · exact l 3 (by decide)
      · exact l 4 (by decide)
    rw [upd_ne (Nat.ne_of_lt (Nat.lt_of_lt_of_le hb' hT))]
    exact (away q hq).1
  done := by
    intro X hX hW hKK calm i pins s σ H E I away st hg
    subst hX hW hKK
    obtain ⟨xs, ys, hqx, hqy, hi⟩ := hg
    obtain ⟨hz, hTI, hTO, st1, st2⟩ := st
    obtain ⟨its, rv, p1, _⟩ := I.tuple hqx
    obtain ⟨its2, rv2, p2, _⟩ := I.list hqy
    have l1 := rv.length
    have l2 := rv2.length
    have D1 := Draws.tuple (prog := X.prog) (w := X.w) (A := X.A.in1) (I.ok.hd calm) b a (Nat.ne_of_lt ha) its.toArray
    have D2 := Draws.list (prog := X.prog) (w := X.w) (A := X.A.in1) (I.ok.hd calm) (b + 1) c (Nat.ne_of_lt (Nat.lt_succ_of_lt hc)) its2.toArray
    have W := GoesN.zip2 (elts := elts) (x1 := kk) (pos := tpos) (sepM ha hc) D1 D2
    have ei : i = min its.toArray.size its2.toArray.size := by
      rw [List.size_toArray, List.size_toArray]
      omega
    rw [ei] at st1 st2
    refine W.stops s _ E ⟨hz, hTI, hTO, ⟨st1, p1⟩, ⟨st2, p2.isList⟩⟩ fun h' tk hk htk => ?_
    exact I.turnedL (t' := tk) (ch := [b, b + 1, b + 2, b + 3, b + 4]) (fun q o hq e => hk q o (fun z => hq (by
        rcases (by simpa using z : q = b + 4 ∨ q = b + 3 ∨ q = b ∨ q = b + 1) with rfl | rfl | rfl | rfl <;> simp)) e) away
  self := fun A i s Q E st q => wpAny_pyIter_zip st.1 q
def iZipM (K : PySem.W.Frag) (ta : TA) : TI := fun σ H R => ta σ H fun vs H1 => ∃ a c xs ys, vs = [.ref a, .ref c] ∧ SqT K H1 a xs ∧ SqL K H1 c ys ∧ R (ItzM K a c) H1
theorem pi_zipM {X : Cx} {e e2 : Expr} {ta : TA} {p pos tpos : Pos} {elts : List Expr} {kk : Nat} (hg : Gl X "zip") (hm : X.mg "zip" = none) (ha : PA X [e, e2] ta)
    (hs : starEach [e, e2] X.env = (false, eval e X.env) :: starEach [e2] X.env := by rfl) (hpl : (backTo pos (starEach [e2] X.env)).any (·.1) = false := by rfl) :
    PI X (.Tuple elts kk tpos) (.Call (.Name "zip" p) [e, e2] [] pos) (iZipM X.K ta) := by
  refine ⟨fun pins s σ H R I h => ?_⟩
  refine Call_ (ld_blt I hg hm PyProof.Rows.boot_zip (PyProof.Rows.callWith_type1 (thn (ha.run pos pins s σ H _ I h) fun us s1 ⟨vs, H1, I1, r1, q1⟩ => ?_) hs hpl))
  obtain ⟨a, c, xs, ys, ex, hqx, hqy, q⟩ := q1
  subst ex
  cases r1 with
  | cons r rr =>
    cases rr with
    | cons r' rr =>
      cases rr
      cases r
      cases r'
      obtain ⟨its, rv, p1, _⟩ := I1.tuple hqx
      obtain ⟨its2, rv2, p2, _⟩ := I1.list hqy
      have la : a < s1.heap.objs.size := by
        obtain ⟨o, ho, _⟩ := p1
        exact Heap.lt_size ho
      have lc : c < s1.heap.objs.size := p2.lt
      refine zip_begins2 (begins_tuple a its.toArray) (begins_list c its2.toArray) p1 p2.isList fun h' hz hTI hTO h1 h2 hsz hk => wpAny_pyIter_zip hz ?_
      have I2 : Inv X pins σ H1 { s1 with heap := h' } := I1.kept (t' := s1.toks) hk
      refine ⟨s1.heap.objs.size + 4, [s1.heap.objs.size, s1.heap.objs.size + 1, s1.heap.objs.size + 2, s1.heap.objs.size + 3, s1.heap.objs.size + 4], _, _, H1, rfl, I2, turn_zipM la lc, ⟨hz, hTI, ⟨_, _, hTO⟩, ⟨_, h1, rfl, rfl⟩, ⟨_, h2, rfl, rfl⟩⟩, fun x hx => ?_, q⟩
      have up : s1.heap.objs.size ≤ x := by
        rcases (by simpa using hx : x = s1.heap.objs.size ∨ x = s1.heap.objs.size + 1 ∨ x = s1.heap.objs.size + 2 ∨ x = s1.heap.objs.size + 3 ∨ x = s1.heap.objs.size + 4) with z | z | z | z | z
        · rw [z]; exact Nat.le_refl _
        · rw [z]; exact Nat.le_add_right _ _
        · rw [z]; exact Nat.le_add_right _ _
        · rw [z]; exact Nat.le_add_right _ _
        · rw [z]; exact Nat.le_add_right _ _
      exact I1.fpOk up (I1.hok.fresh up)
end G1
/-! one of two readings; zips as walks -/
namespace G1
open PySem PySem.Spec PyProof.Rows L2 RZ
section
variable {X : Cx}
theorem PE.or {e : Expr} {t1 t2 : TE} (a : PE X e t1) (b : PE X e t2) : PE X e (fun σ H Q => t1 σ H Q ∨ t2 σ H Q) :=
  ⟨fun pins s σ H Q I h => h.elim (fun h => a.run pins s σ H Q I h) (fun h => b.run pins s σ H Q I h)⟩
theorem PI.or {tg e : Expr} {t1 t2 : TI} (a : PI X tg e t1) (b : PI X tg e t2) : PI X tg e (fun σ H R => t1 σ H R ∨ t2 σ H R) :=
  ⟨fun pins s σ H R I h => h.elim (fun h => a.run pins s σ H R I h) (fun h => b.run pins s σ H R I h)⟩
end
section
variable {K : PySem.W.Frag} {a c : Addr} {xs ys : List V}
theorem walk_zipM {n : Nat} (hn : n = min xs.length ys.length) : Walk (ItzM K a c) n (fun H => SqT K H a xs ∧ SqL K H c ys) (YPair (fun i => xs[i]?) (fun i => ys[i]?)) := by
  subst hn
  refine ⟨fun i H hi q => ⟨xs, ys, xs[i]'(by omega), ys[i]'(by omega), q.1, q.2, by simp [show i < xs.length by omega], by simp [show i < ys.length by omega]⟩, fun H q => ⟨xs, ys, q.1, q.2, rfl⟩, fun i H v H' hi q y => ?_⟩
  obtain ⟨T, x, y, rfl, hT, rfl, h1, h2⟩ := y
  exact ⟨T, x, y, rfl, hT, rfl, h1 xs q.1, h2 ys q.2⟩
theorem walk_zipT {n : Nat} (hn : n = min xs.length ys.length) : Walk (ItzT K a c) n (fun H => SqT K H a xs ∧ SqT K H c ys) (YPair (fun i => xs[i]?) (fun i => ys[i]?)) := by
  subst hn
  refine ⟨fun i H hi q => ⟨xs, ys, xs[i]'(by omega), ys[i]'(by omega), q.1, q.2, by simp [show i < xs.length by omega], by simp [show i < ys.length by omega]⟩, fun H q => ⟨xs, ys, q.1, q.2, by omega⟩, fun i H v H' hi q y => ?_⟩
  obtain ⟨T, x, y, rfl, hT, rfl, h1, h2⟩ := y
  exact ⟨T, x, y, rfl, hT, rfl, h1 xs q.1, h2 ys q.2⟩
end
end G1
/-! rows by told sums: states, rounds -/
namespace Sq
def nxt (m : Nat) (fs as : List Nat) : Nat := (List.zipWith (· * ·) fs as.reverse).sum % m
def st (m : Nat) (fs bs : List Nat) : Nat → List Nat
  | 0 => bs
  | n + 1 => (st m fs bs n).tail ++ [nxt m fs (st m fs bs n)]
def xv (m : Nat) (fs bs : List Nat) (n : Nat) : Nat := (st m fs bs n).headD 0
def rw_ (m : Nat) (fs bs : List Nat) (n : Nat) : List Nat := (List.range n).map (xv m fs bs)
structure Rl (m : Nat) (fs bs : List Nat) : Prop where
  m2 : 2 ≤ m
  m9 : m ≤ 9
  f1 : 1 ≤ fs.length
  f4 : fs.length ≤ 4
  fb : bs.length = fs.length
  fm : ∀ f, f ∈ fs → f < m
  bm : ∀ b, b ∈ bs → b < m
  big : m ^ fs.length ≤ 5000
section
variable {m : Nat} {fs bs : List Nat}
theorem nxt_lt (h : 0 < m) (as : List Nat) : nxt m fs as < m := Nat.mod_lt _ h
theorem st_len (r : Rl m fs bs) : ∀ n, (st m fs bs n).length = fs.length
  | 0 => r.fb
  | n + 1 => by
    have := r.f1
    simp only [st, List.length_append, List.length_tail, st_len r n, List.length_cons, List.length_nil]
    omega
theorem st_lt (r : Rl m fs bs) : ∀ n v, v ∈ st m fs bs n → v < m
  | 0, v, h => r.bm v h
  | n + 1, v, h => by
    have := r.m2
    simp only [st, List.mem_append, List.mem_singleton] at h
    rcases h with h | h
    · exact st_lt r n v (List.mem_of_mem_tail h)
    · rw [h]
      exact nxt_lt (by omega) _
theorem st_shift (r : Rl m fs bs) (n i : Nat) (h : i + 1 < fs.length) : (st m fs bs (n + 1))[i]? = (st m fs bs n)[i + 1]? := by
  have l := st_len r n
  simp only [st]
  rw [List.getElem?_append_left (by rw [List.length_tail]; omega), List.getElem?_tail]
theorem st_last (r : Rl m fs bs) (n : Nat) : (st m fs bs (n + 1))[fs.length - 1]? = some (nxt m fs (st m fs bs n)) := by
  have l := st_len r n
  have f1 := r.f1
  simp only [st]
  rw [List.getElem?_append_right (by rw [List.length_tail]; omega), List.length_tail, l, Nat.sub_self]
  rfl
theorem st_get (r : Rl m fs bs) : ∀ i n, i < fs.length → (st m fs bs n)[i]? = some (xv m fs bs (n + i))
  | 0, n, h => by
    have l := st_len r n
    unfold xv
    rw [Nat.add_zero]
    cases e : st m fs bs n with
    | nil => rw [e] at l; simp at l; omega
    | cons a as => rfl
  | i + 1, n, h => by
    rw [← st_shift r n i h, st_get r i (n + 1) (by omega)]
    congr 2
    omega
theorem x_next (r : Rl m fs bs) (n : Nat) : xv m fs bs (n + fs.length) = nxt m fs (st m fs bs n) := by
  have f1 := r.f1
  have h := st_get r (fs.length - 1) (n + 1) (by omega)
  rw [st_last r n] at h
  have e := Option.some.inj h
  rw [e]
  congr 1
  omega
theorem x_lt (r : Rl m fs bs) (n : Nat) : xv m fs bs n < m := by
  have h := st_get r 0 n r.f1
  rw [Nat.add_zero] at h
  exact st_lt r n _ (List.mem_of_getElem? h)
theorem rw_len (n : Nat) : (rw_ m fs bs n).length = n := by unfold rw_; rw [List.length_map, List.length_range]
theorem rw_succ (n : Nat) : rw_ m fs bs (n + 1) = rw_ m fs bs n ++ [xv m fs bs n] := by unfold rw_; rw [List.range_succ, List.map_append]; rfl
theorem rw_get {n i : Nat} (h : i < n) : (rw_ m fs bs n)[i]? = some (xv m fs bs i) := by
  unfold rw_
  rw [List.getElem?_map, List.getElem?_range h]
  rfl
theorem rw_take (n k : Nat) : (rw_ m fs bs n).take k = rw_ m fs bs (min k n) := by
  apply List.ext_getElem?
  intro i
  rw [List.getElem?_take]
  by_cases h : i < k
  · rw [if_pos h]
    by_cases h2 : i < n
    · rw [rw_get h2, rw_get (by omega)]
    · rw [List.getElem?_eq_none (by rw [rw_len]; omega), List.getElem?_eq_none (by rw [rw_len]; omega)]
  · rw [if_neg h, List.getElem?_eq_none (by rw [rw_len]; omega)]
theorem st_row (r : Rl m fs bs) (n : Nat) : (rw_ m fs bs (n + fs.length)).drop n = st m fs bs n := by
  apply List.ext_getElem?
  intro i
  rw [List.getElem?_drop]
  by_cases h : i < fs.length
  · rw [rw_get (by omega), st_get r i n h]
  · rw [List.getElem?_eq_none (by rw [rw_len]; omega), List.getElem?_eq_none (by rw [st_len r]; omega)]
theorem rw_begin (r : Rl m fs bs) : rw_ m fs bs fs.length = bs := by
  have h := st_row r 0
  rw [Nat.zero_add, List.drop_zero] at h
  exact h
theorem rw_mid (r : Rl m fs bs) {n N : Nat} (h : n + fs.length ≤ N) : ((rw_ m fs bs N).take (n + fs.length)).drop n = st m fs bs n := by
  rw [rw_take, Nat.min_eq_left h, st_row r]

/-! ### rounds -/
structure IsRound (m : Nat) (fs bs : List Nat) (h t : Nat) : Prop where
  t1 : 1 ≤ t
  eq : st m fs bs (h + t) = st m fs bs h
  ne : ∀ i j, i < j → j < h + t → st m fs bs i ≠ st m fs bs j
theorem IsRound.uniq {h t h' t' : Nat} (a : IsRound m fs bs h t) (b : IsRound m fs bs h' t') : h = h' ∧ t = t' := by
  have a1 := a.t1
  have b1 := b.t1
  have e : h + t = h' + t' := by
    rcases Nat.lt_trichotomy (h + t) (h' + t') with c | c | c
    · exact absurd a.eq.symm (b.ne h (h + t) (by omega) c)
    · exact c
    · exact absurd b.eq.symm (a.ne h' (h' + t') (by omega) c)
  have e2 : h = h' := by
    rcases Nat.lt_trichotomy h h' with c | c | c
    · exact absurd (by rw [← a.eq, ← b.eq, e]) (a.ne h h' c (by omega))
    · exact c
    · exact absurd (by rw [← b.eq, ← a.eq, e]) (a.ne h' h c (by omega))
  exact ⟨e2, by omega⟩
/-! pigeonholes -/
theorem nodup_le : ∀ (N : Nat) (l : List Nat), l.Nodup → (∀ x, x ∈ l → x < N) → l.length ≤ N
  | 0, [], _, _ => Nat.le_refl _
  | 0, a :: l, _, h => absurd (h a List.mem_cons_self) (Nat.not_lt_zero _)
  | N + 1, l, nd, h => by
    have h2 := nodup_le N (l.filter (fun x => x != N)) (nd.sublist List.filter_sublist) (fun x hx => by
      have := List.mem_filter.mp hx
      have a := h x this.1
      have b : x ≠ N := by simpa using this.2
      omega)
    have key : ∀ l : List Nat, l.Nodup → l.length ≤ (l.filter (fun x => x != N)).length + 1 := by
      intro l
      induction l with
      | nil => intro _; simp
      | cons a l ih =>
        intro nd
        rw [List.nodup_cons] at nd
        by_cases e : a = N
        · subst e
          have : l.filter (fun x => x != a) = l := by
            rw [List.filter_eq_self]
            intro x hx
            have : x ≠ a := fun z => nd.1 (z ▸ hx)
            simpa using this
          rw [List.filter_cons_of_neg (by simp), this]
          simp
        · rw [List.filter_cons_of_pos (by simpa using e)]
          have := ih nd.2
          simp only [List.length_cons]
          omega
    have := key l nd
    omega
def code (m : Nat) : List Nat → Nat
  | [] => 0
  | a :: l => a + m * code m l
theorem code_lt (h : 0 < m) : ∀ l : List Nat, (∀ v, v ∈ l → v < m) → code m l < m ^ l.length
  | [], _ => by simp [code]
  | a :: l, hl => by
    have h1 := hl a List.mem_cons_self
    have h2 := code_lt h l fun v hv => hl v (List.mem_cons_of_mem _ hv)
    simp only [code, List.length_cons, Nat.pow_succ]
    have : m * (code m l + 1) ≤ m * m ^ l.length := Nat.mul_le_mul_left _ h2
    rw [Nat.mul_comm (m ^ l.length)]
    rw [Nat.mul_add, Nat.mul_one] at this
    omega
theorem code_inj (h : 0 < m) : ∀ l k : List Nat, l.length = k.length → (∀ v, v ∈ l → v < m) → (∀ v, v ∈ k → v < m) → code m l = code m k → l = k
  | [], [], _, _, _, _ => rfl
  | [], _ :: _, e, _, _, _ => by cases e
  | _ :: _, [], e, _, _, _ => by cases e
  | a :: l, b :: k, e, hl, hk, q => by
    have h1 := hl a List.mem_cons_self
    have h2 := hk b List.mem_cons_self
    simp only [code] at q
    have e1 : a = b := by
      have := congrArg (· % m) q
      simp only [Nat.add_mul_mod_self_left, Nat.mod_eq_of_lt h1, Nat.mod_eq_of_lt h2] at this
      exact this
    subst e1
    have e2 : code m l = code m k := Nat.eq_of_mul_eq_mul_left h (by omega)
    rw [code_inj h l k (by simpa using e) (fun v hv => hl v (List.mem_cons_of_mem _ hv)) (fun v hv => hk v (List.mem_cons_of_mem _ hv)) e2]
theorem ne_bound (r : Rl m fs bs) {n : Nat} (ne : ∀ i j, i < j → j < n → st m fs bs i ≠ st m fs bs j) : n ≤ m ^ fs.length := by
  have m2 := r.m2
  have nd : ((List.range n).map fun i => code m (st m fs bs i)).Nodup := by
    refine List.pairwise_iff_getElem.mpr fun i j hi hj hij => ?_
    rw [List.length_map, List.length_range] at hj
    rw [List.getElem_map, List.getElem_map, List.getElem_range, List.getElem_range]
    intro q2
    exact ne i j hij hj (code_inj (by omega) _ _ (by rw [st_len r, st_len r]) (st_lt r i) (st_lt r j) q2)
  have := nodup_le (m ^ fs.length) _ nd (fun x hx => by
    obtain ⟨i, _, rfl⟩ := List.mem_map.mp hx
    have := code_lt (m := m) (by omega) (st m fs bs i) (st_lt r i)
    rw [st_len r] at this
    exact this)
  rwa [List.length_map, List.length_range] at this
theorem IsRound.le (r : Rl m fs bs) {h t : Nat} (a : IsRound m fs bs h t) : h + t ≤ m ^ fs.length := ne_bound r a.ne
theorem st_congr {a b : Nat} (e : st m fs bs a = st m fs bs b) : ∀ k, st m fs bs (a + k) = st m fs bs (b + k)
  | 0 => e
  | k + 1 => by
    show st m fs bs (a + k + 1) = st m fs bs (b + k + 1)
    simp only [st]
    rw [st_congr e k]
theorem x_congr {a b : Nat} (e : st m fs bs a = st m fs bs b) (k : Nat) : xv m fs bs (a + k) = xv m fs bs (b + k) := by
  unfold xv
  rw [st_congr e k]
theorem IsRound.per {h t : Nat} (a : IsRound m fs bs h t) (n : Nat) (hn : h ≤ n) : xv m fs bs (n + t) = xv m fs bs n := by
  have := x_congr a.eq (n - h)
  rw [show h + t + (n - h) = n + t by omega, show h + (n - h) = n by omega] at this
  exact this
theorem IsRound.perk {h t : Nat} (a : IsRound m fs bs h t) (k i : Nat) : xv m fs bs (h + (i + t * k)) = xv m fs bs (h + i) := by
  induction k with
  | zero => rfl
  | succ k ih =>
    rw [← ih, ← a.per (h + (i + t * k)) (by omega)]
    congr 1
    rw [Nat.mul_succ]
    omega
theorem IsRound.mod {h t : Nat} (a : IsRound m fs bs h t) (i : Nat) : xv m fs bs (h + i) = xv m fs bs (h + i % t) := by
  have := a.perk (i / t) (i % t)
  rw [Nat.mod_add_div] at this
  exact this
theorem st_eq_of (r : Rl m fs bs) {a b : Nat} (e : ∀ i, i < fs.length → xv m fs bs (a + i) = xv m fs bs (b + i)) : st m fs bs a = st m fs bs b := by
  apply List.ext_getElem?
  intro i
  by_cases h : i < fs.length
  · rw [st_get r i a h, st_get r i b h, e i h]
  · rw [List.getElem?_eq_none (by rw [st_len r]; omega), List.getElem?_eq_none (by rw [st_len r]; omega)]
/-- the number ahead of the round is another one -/
theorem IsRound.ahead (r : Rl m fs bs) {h t : Nat} (a : IsRound m fs bs h t) (h0 : 0 < h) : xv m fs bs (h - 1) ≠ xv m fs bs (h - 1 + t) := by
  intro q
  have t1 := a.t1
  refine a.ne (h - 1) (h - 1 + t) (by omega) (by omega) (st_eq_of r fun i hi => ?_)
  cases i with
  | zero => exact q
  | succ i =>
    have := x_congr a.eq i
    rw [show h - 1 + (i + 1) = h + i by omega, show h - 1 + t + (i + 1) = h + t + i by omega, this]
/-- no lesser turn -/
theorem IsRound.no_less (r : Rl m fs bs) {h t s : Nat} (a : IsRound m fs bs h t) (s1 : 1 ≤ s) (st_ : s < t) (d : t % s = 0) (q : ∀ i, i < t → xv m fs bs (h + i) = xv m fs bs (h + i % s)) : False := by
  have t1 := a.t1
  have all : ∀ i, xv m fs bs (h + i) = xv m fs bs (h + i % s) := fun i => by
    rw [a.mod i, q _ (Nat.mod_lt _ (by omega)), Nat.mod_mod_of_dvd _ (Nat.dvd_of_mod_eq_zero d)]
  refine a.ne h (h + s) (by omega) (by omega) (st_eq_of r fun i hi => ?_)
  rw [all i, show h + s + i = h + (i + s) by omega, all (i + s), Nat.add_mod_right]
theorem mul_cancel {p f a b c : Nat} (hp : p = 2 ∨ p = 3 ∨ p = 5 ∨ p = 7) (f0 : 0 < f) (fp : f < p) (ha : a < p) (hb : b < p) (q : (c + f * a) % p = (c + f * b) % p) : a = b := by
  have q2 : (f * a) % p = (f * b) % p := by
    rcases hp with rfl | rfl | rfl | rfl <;> omega
  have d2 : ∀ f < 2, 0 < f → ∀ a < 2, ∀ b < 2, (f * a) % 2 = (f * b) % 2 → a = b := by decide
  have d3 : ∀ f < 3, 0 < f → ∀ a < 3, ∀ b < 3, (f * a) % 3 = (f * b) % 3 → a = b := by decide
  have d5 : ∀ f < 5, 0 < f → ∀ a < 5, ∀ b < 5, (f * a) % 5 = (f * b) % 5 → a = b := by decide
  have d7 : ∀ f < 7, 0 < f → ∀ a < 7, ∀ b < 7, (f * a) % 7 = (f * b) % 7 → a = b := by decide
  rcases hp with rfl | rfl | rfl | rfl
  · exact d2 f fp f0 a ha b hb q2
  · exact d3 f fp f0 a ha b hb q2
  · exact d5 f fp f0 a ha b hb q2
  · exact d7 f fp f0 a ha b hb q2
theorem nxt_split (r : Rl m fs bs) (gs as : List Nat) (fl a : Nat) (e : fs = gs ++ [fl]) (l : as.length = gs.length) : nxt m fs (a :: as) = ((List.zipWith (· * ·) gs as.reverse).sum + fl * a) % m := by
  unfold nxt
  rw [e, List.reverse_cons, List.zipWith_append (by rw [List.length_reverse]; exact l.symm), List.sum_append]
  simp
/-- by a prime, the last factor not 0, a row comes round from the start -/
theorem IsRound.zero (r : Rl m fs bs) {h t fl : Nat} (a : IsRound m fs bs h t) (hp : m = 2 ∨ m = 3 ∨ m = 5 ∨ m = 7) (hf : fs[fs.length - 1]? = some fl) (f0 : 0 < fl) : h = 0 := by
  refine Classical.byContradiction fun h0 => ?_
  have f1 := r.f1
  obtain ⟨gs, e⟩ : ∃ gs, fs = gs ++ [fl] := by
    refine ⟨fs.dropLast, ?_⟩
    have hne : fs ≠ [] := fun z => by rw [z] at f1; simp at f1
    have := List.dropLast_concat_getLast hne
    rw [List.getLast_eq_getElem] at this
    obtain ⟨_, e2⟩ := List.getElem?_eq_some_iff.mp hf
    rw [e2] at this
    exact this.symm
  have hk : fs.length = gs.length + 1 := by rw [e]; simp
  refine a.ahead r (by omega) ?_
  have flm : fl < m := r.fm fl (List.mem_of_getElem? hf)
  have s1 := x_next r (h - 1)
  have s2 := x_next r (h - 1 + t)
  have eqx : xv m fs bs (h - 1 + fs.length) = xv m fs bs (h - 1 + t + fs.length) := by
    have := x_congr a.eq (fs.length - 1)
    rw [show h - 1 + t + fs.length = h + t + (fs.length - 1) by omega, this]
    congr 1
    omega
  have shape : ∀ n, st m fs bs n = xv m fs bs n :: (st m fs bs n).tail := fun n => by
    have g := st_get r 0 n (by omega)
    rw [Nat.add_zero] at g
    cases c : st m fs bs n with
    | nil => rw [c] at g; cases g
    | cons u us =>
      rw [c] at g
      have := Option.some.inj g
      rw [List.tail_cons, ← this]
  have tails : (st m fs bs (h - 1)).tail = (st m fs bs (h - 1 + t)).tail := by
    apply List.ext_getElem?
    intro i
    rw [List.getElem?_tail, List.getElem?_tail]
    by_cases hi : i + 1 < fs.length
    · rw [st_get r (i + 1) _ hi, st_get r (i + 1) _ hi]
      have := x_congr a.eq i
      rw [show h - 1 + (i + 1) = h + i by omega, show h - 1 + t + (i + 1) = h + t + i by omega, this]
    · rw [List.getElem?_eq_none (by rw [st_len r]; omega), List.getElem?_eq_none (by rw [st_len r]; omega)]
  have lt : (st m fs bs (h - 1)).tail.length = gs.length := by rw [List.length_tail, st_len r]; omega
  rw [s1, s2, shape (h - 1), shape (h - 1 + t), nxt_split r gs _ fl _ e lt, nxt_split r gs _ fl _ e (by rw [← tails]; exact lt), tails] at eqx
  exact mul_cancel hp f0 flm (x_lt r _) (x_lt r _) eqx
end
end Sq
/-! repr of small numbers, tuples of them, tables beside one another -/
namespace G1
open PySem PySem.Spec PyProof.Rows L2
theorem small_int {i : Int} (h0 : 0 ≤ i) (h1 : i ≤ 10000) : Small (.int i) := by
  refine ⟨?_, rfl, by simp [PyData.depth], ?_, ?_⟩
  · simp only [PyData.showable]
    exact decide_eq_true (log_small h0 (by omega))
  · show decide ((PyData.shown (.int i)).length ≤ 8) = true
    rw [decide_eq_true_eq]
    have e := PyProof.Rows.toString_length_le h0 (k := 5) (by decide) (by omega)
    have e2 : (PyData.shown (.int i)).length = (Str.ofString (toString i)).length := rfl
    omega
  · show (if i == 0 then 0 else i.natAbs.log2 + 1) ≤ 20000
    split
    · omega
    · have z : i.natAbs ≠ 0 := fun e => by
        rename_i hz
        exact hz (by rw [Int.natAbs_eq_zero.mp e]; rfl)
      have : i.natAbs.log2 < 64 := (Nat.log2_lt z).mpr (by omega)
      omega
/-- a tuple of small data -/
theorem small_tup {ds : List PyData} (h : ∀ d ∈ ds, Small d ∧ d.weight ≤ 100 ∧ d.depth ≤ 3) (hl : ds.length ≤ 20) : Small (.tuple ds) := by
  obtain ⟨h1, h2, h3, h4, h5⟩ := small_all ds fun d hd => (h d hd).1
  have w : ∀ ds : List PyData, (∀ d ∈ ds, d.weight ≤ 100 ∧ d.depth ≤ 3) → PyData.weightAll ds ≤ 101 * ds.length ∧ PyData.depthAll ds ≤ 3 := by
    intro ds
    induction ds with
    | nil => intro _; simp [PyData.weightAll, PyData.depthAll]
    | cons d ds ih =>
      intro hd
      have a := hd d List.mem_cons_self
      have b := ih fun e he => hd e (List.mem_cons_of_mem _ he)
      refine ⟨?_, ?_⟩
      · simp only [PyData.weightAll, List.length_cons]
        omega
      · simp only [PyData.depthAll]
        omega
  obtain ⟨w1, w2⟩ := w ds fun d hd => (h d hd).2
  refine ⟨?_, ?_, ?_, ?_, ?_⟩
  · simp only [PyData.showable]; exact h1
  · simp only [PyData.hasDict]; exact h2
  · simp only [PyData.depth]; omega
  · simp only [PyData.leavesShort]; exact h4
  · simp only [PyData.weight]
    have : 101 * ds.length ≤ 101 * 20 := Nat.mul_le_mul_left _ hl
    omega
theorem int_fit {i : Int} (h0 : 0 ≤ i) (h1 : i ≤ 10000) : Small (.int i) ∧ PyData.weight (.int i) ≤ 20 ∧ PyData.depth (.int i) ≤ 1 := by
  refine ⟨small_int h0 h1, ?_, by simp [PyData.depth]⟩
  show (if i == 0 then 0 else i.natAbs.log2 + 1) ≤ 20
  split
  · omega
  · have z : i.natAbs ≠ 0 := fun e => by
      rename_i hz
      exact hz (by rw [Int.natAbs_eq_zero.mp e]; rfl)
    have : i.natAbs.log2 < 14 := (Nat.log2_lt z).mpr (by omega)
    omega
def dKs (ks : List Nat) : PyData := .tuple (ks.map fun k => PyData.int (k : Nat))
theorem dp_ks {K : PySem.W.Frag} {H : Hp} : ∀ ks : List Nat, DpAll K H (ks.map fun k => V.int (k : Nat)) (ks.map fun k => PyData.int (k : Nat))
  | [] => .nil
  | k :: ks => .cons (.int _) (dp_ks ks)
theorem small_ks {ks : List Nat} (h : ∀ k ∈ ks, k ≤ 10000) (hl : ks.length ≤ 20) : Small (dKs ks) := small_tup (fun d hd => by
  obtain ⟨k, hk, rfl⟩ := List.mem_map.mp hd
  have a := int_fit (i := (k : Int)) (by omega) (by have := h k hk; omega)
  exact ⟨a.1, by have := a.2.1; omega, by have := a.2.2; omega⟩) (by rw [List.length_map]; exact hl)

/-- two tables -/
@[irreducible] def dT2 (a b c d : List Bool) : PyData := .list [dTab a b, dTab c d]
theorem repr_t2 {K : PySem.W.Frag} {H : Hp} {R : PyData → Prop} {l p p' : Addr} {a b c d : List Bool} (e : H l = some (.lst [.ref p, .ref p'])) (h1 : H p = some (.tup [.str (B a), .str (B b)])) (h2 : H p' = some (.tup [.str (B c), .str (B d)]))
    (l1 : a.length ≤ 5000) (l2 : b.length ≤ 5000) (l3 : c.length ≤ 5000) (l4 : d.length ≤ 5000) (q : R (dT2 a b c d)) :
    ∃ (a' : Addr) (d' : PyData), [V.ref l] = [V.ref a'] ∧ Dp K H (.ref a') d' ∧ d'.showable = true ∧ d'.hasDict = false ∧ d'.depth ≤ 60 ∧ d'.shown.length ≤ sizeLine ∧ R d' := by
  unfold dT2 at q
  exact repr_items [dTab a b, dTab c d] e (.cons (dp_tab h1) (.cons (dp_tab h2) .nil)) (List.forall_mem_cons.mpr ⟨small_tab l1 l2, List.forall_mem_cons.mpr ⟨small_tab l3 l4, fun _ z => by cases z⟩⟩) (by simp) q
/-- a tuple of small numbers -/
theorem repr_ks {K : PySem.W.Frag} {H : Hp} {R : PyData → Prop} {p : Addr} {ks : List Nat} (h1 : H p = some (.tup (ks.map fun k => V.int (k : Nat)))) (h : ∀ k ∈ ks, k ≤ 10000) (hl : ks.length ≤ 20) (q : R (dKs ks)) :
    ∃ (a' : Addr) (d' : PyData), [V.ref p] = [V.ref a'] ∧ Dp K H (.ref a') d' ∧ d'.showable = true ∧ d'.hasDict = false ∧ d'.depth ≤ 60 ∧ d'.shown.length ≤ sizeLine ∧ R d' := by
  have sm := small_ks h hl
  exact go_repr (dKs ks) (.tup (sqT_of h1) (dp_ks ks)) sm.sh sm.nd (Nat.le_trans sm.dp (by decide)) sm.lv (Nat.le_trans sm.wt (by decide)) q
/-- a tuple of small numbers, its text never unfolded -/
@[irreducible] def dKi (ks : List Nat) : PyData := dKs ks
theorem repr_ki {K : PySem.W.Frag} {H : Hp} {R : PyData → Prop} {p : Addr} {ks : List Nat} (h1 : H p = some (.tup (ks.map fun k => V.int (k : Nat)))) (h : ∀ k ∈ ks, k ≤ 10000) (hl : ks.length ≤ 20) (q : R (dKi ks)) :
    ∃ (a' : Addr) (d' : PyData), [V.ref p] = [V.ref a'] ∧ Dp K H (.ref a') d' ∧ d'.showable = true ∧ d'.hasDict = false ∧ d'.depth ≤ 60 ∧ d'.shown.length ≤ sizeLine ∧ R d' := by
  unfold dKi at q
  exact repr_ks h1 h hl q
end G1
namespace G69
open PySem PySem.Spec PyProof.Rows L2 G1 Row Sq
local macro_rules | `(tactic| walk_at "side") => `(tactic| first
  | assumption
  | omega
  | (constructor <;> omega)
  | rfl
  | decide
  | (dsimp only; decide)
  | (refine szl ?_; simp only [List.length_cons, List.length_nil]; omega)
  | (unfold CMul; omega)
  | (unfold CDiv; omega)
  | (unfold CPow; omega)
  | (unfold CMul; simp; done)
  | (unfold CMul; simp; omega)
  | (simp only [List.length_map, List.length_append, List.length_take, List.length_drop, rep_length, List.length_cons, List.length_nil, Nat.zero_add, Nat.mul_one]; omega))
local macro_rules | `(tactic| walk_at "go1") => `(tactic| first
  | (apply go_bit; (focus walk_at "side"); rw [B_str _ (by walk_at "side") (by walk_at "side")])
  | (apply go_lenS; (focus walk_at "side"); simp only [B_len])
  | (apply go_addS; (focus walk_at "side"); rw [B_app])
  | (apply go_mulS; (focus walk_at "side"); (focus walk_at "side"); rw [B_mul _ (by walk_at "side")])
  | (apply go_sl; (focus walk_at "side"); first | rw [B_last] | rw [B_init] | rw [B_to _ (by walk_at "side")] | rw [B_from _ (by walk_at "side")] | rw [B_mid _ (by walk_at "side") (by walk_at "side")])
  | (apply goC_sl; (focus walk_at "side"); first | rw [C_to _ (by walk_at "side")] | rw [C_from _ (by walk_at "side")] | rw [C_mid _ (by walk_at "side") (by walk_at "side")])
  | (apply goC_mulS; (focus walk_at "side"); (focus walk_at "side"); rw [C_mul _ (by walk_at "side")])
  | refine ⟨_, rfl, ?_⟩
  | refine ⟨_, _, rfl, rfl, ?_⟩
  | refine ⟨_, _, _, rfl, rfl, ?_⟩
  | refine ⟨_, _, rfl, ?_⟩
  | refine ⟨_, _, _, rfl, ?_⟩
  | (apply go_tup; assumption)
  | (apply go_unl; assumption)
  | (apply go_ixL; assumption; (first | rfl | assumption))
  | (apply go_ixT; assumption; (first | rfl | assumption))
  | (apply go_lenL; assumption)
  | (apply go_lenT; assumption)
  | refine Or.inl ⟨_, rfl, ?_⟩
  | (refine And.intro ?ll ?_; (case ll => walk_at "side")))
local macro_rules | `(tactic| walk_at "go") => `(tactic| repeat (walk_at "go1"))
def topS (i : Nat) : Stmt := PySem.Challenge.pw_leastmakers_k69_rounds_and_reads.main.body.getD i (.Pass ⟨0, 0, 0, 0⟩)
abbrev s_sum_ahead : Stmt := topS 1
abbrev nm_sum_ahead : List Str := ["modulus", "factors", "ahead", "factor", "number"]
theorem sc_sum_ahead : FnScope nm_sum_ahead ["modulus", "factors", "ahead"] (defScope s_sum_ahead) := ⟨rfl, rfl, rfl, by decide +kernel, rfl, by decide +kernel, by decide +kernel⟩
abbrev s_least : Stmt := topS 3
abbrev nm_least : List Str := ["table", "head", "turn", "alike", "cut"]
theorem sc_least : FnScope nm_least ["table"] (defScope s_least) := ⟨rfl, rfl, rfl, by decide +kernel, rfl, by decide +kernel, by decide +kernel⟩
abbrev s_table_of : Stmt := topS 4
abbrev nm_table_of : List Str := ["row", "head"]
theorem sc_table_of : FnScope nm_table_of ["row", "head"] (defScope s_table_of) := ⟨rfl, rfl, rfl, by decide +kernel, rfl, by decide +kernel, by decide +kernel⟩
abbrev s_shortest : Stmt := topS 5
abbrev nm_shortest : List Str := ["turn", "many", "size"]
theorem sc_shortest : FnScope nm_shortest ["turn"] (defScope s_shortest) := ⟨rfl, rfl, rfl, by decide +kernel, rfl, by decide +kernel, by decide +kernel⟩
abbrev s_alike : Stmt := topS 6
abbrev nm_alike : List Str := ["head", "turn", "alike"]
theorem sc_alike : FnScope nm_alike ["head", "turn"] (defScope s_alike) := ⟨rfl, rfl, rfl, by decide +kernel, rfl, by decide +kernel, by decide +kernel⟩
abbrev s_values : Stmt := topS 8
abbrev nm_values : List Str := ["rule", "many", "modulus", "factors", "begin", "row"]
theorem sc_values : FnScope nm_values ["rule", "many"] (defScope s_values) := ⟨rfl, rfl, rfl, by decide +kernel, rfl, by decide +kernel, by decide +kernel⟩
abbrev s_round_of : Stmt := topS 9
abbrev nm_round_of : List Str := ["rule", "modulus", "factors", "ahead", "seen"]
theorem sc_round_of : FnScope nm_round_of ["rule"] (defScope s_round_of) := ⟨rfl, rfl, rfl, by decide +kernel, rfl, by decide +kernel, by decide +kernel⟩
abbrev s_reads : Stmt := topS 10
abbrev nm_reads : List Str := ["rule", "value", "head", "turn", "row", "found"]
theorem sc_reads : FnScope nm_reads ["rule", "value"] (defScope s_reads) := ⟨rfl, rfl, rfl, by decide +kernel, rfl, by decide +kernel, by decide +kernel⟩
abbrev s_deck : Stmt := topS 12
abbrev nm_deck : List Str := ["_law_script", "_law_cells", "_law_great", "_law_cell"]
theorem sc_deck : FnScope nm_deck ["_law_script"] (defScope s_deck) := ⟨rfl, rfl, rfl, by decide +kernel, rfl, by decide +kernel, by decide +kernel⟩
abbrev s_draw : Stmt := topS 13
abbrev nm_draw : List Str := ["_law_deck_here", "_law_many", "_law_great", "_law_cells", "_law_rest", "_law_turn", "_law_found"]
theorem sc_draw : FnScope nm_draw ["_law_deck_here", "_law_many"] (defScope s_draw) := ⟨rfl, rfl, rfl, by decide +kernel, rfl, by decide +kernel, by decide +kernel⟩
abbrev s_pick : Stmt := topS 14
abbrev nm_pick : List Str := ["_law_deck_here", "_law_items"]
theorem sc_pick : FnScope nm_pick ["_law_deck_here", "_law_items"] (defScope s_pick) := ⟨rfl, rfl, rfl, by decide +kernel, rfl, by decide +kernel, by decide +kernel⟩
abbrev s_whole : Stmt := topS 15
abbrev nm_whole : List Str := ["_law_value", "_law_low", "_law_high"]
theorem sc_whole : FnScope nm_whole ["_law_value", "_law_low", "_law_high"] (defScope s_whole) := ⟨rfl, rfl, rfl, by decide +kernel, rfl, by decide +kernel, by decide +kernel⟩
abbrev s_rule : Stmt := topS 16
abbrev nm_rule : List Str := ["_law_deck_here", "_law_most", "_law_modulus", "_law_many", "_law_size", "_law_kind", "_law_root", "_law_factors", "_law_begin", "_law_k"]
theorem sc_rule : FnScope nm_rule ["_law_deck_here", "_law_most"] (defScope s_rule) := ⟨rfl, rfl, rfl, by decide +kernel, rfl, by decide +kernel, by decide +kernel⟩
abbrev s_row : Stmt := topS 17
abbrev nm_row : List Str := ["_law_rule_here", "_law_many", "_law_modulus", "_law_factors", "_law_begin", "_law_found", "_law_back", "_law_one", "_law_other"]
theorem sc_row : FnScope nm_row ["_law_rule_here", "_law_many"] (defScope s_row) := ⟨rfl, rfl, rfl, by decide +kernel, rfl, by decide +kernel, by decide +kernel⟩
abbrev s_lleast : Stmt := topS 18
abbrev nm_lleast : List Str := ["_law_head", "_law_turn", "_law_size", "_law_step"]
theorem sc_lleast : FnScope nm_lleast ["_law_head", "_law_turn"] (defScope s_lleast) := ⟨rfl, rfl, rfl, by decide +kernel, rfl, by decide +kernel, by decide +kernel⟩
abbrev s_is_round : Stmt := topS 19
abbrev nm_is_round : List Str := ["_law_rule_here", "_law_value", "_law_modulus", "_law_many", "_law_most", "_law_k", "_law_ahead", "_law_turn", "_law_text", "_law_ring", "_law_step", "_law_one"]
theorem sc_is_round : FnScope nm_is_round ["_law_rule_here", "_law_value"] (defScope s_is_round) := ⟨rfl, rfl, rfl, by decide +kernel, rfl, by decide +kernel, by decide +kernel⟩
abbrev s_law : Stmt := topS 20
abbrev nm_law : List Str := ["_law_script", "_law_deck_here", "_law_most", "_law_rule_here", "_law_told", "_law_ahead", "_law_turn", "_law_row_here", "_law_numbers", "_law_number", "_law_marks", "_law_due", "_law_one"]
theorem sc_law : FnScope nm_law ["_law_script"] (defScope s_law) := ⟨rfl, rfl, rfl, by decide +kernel, rfl, by decide +kernel, by decide +kernel⟩
structure Tp (K : PySem.W.Frag) (mg : Str → Option Value) where
  a_sum_ahead : Addr
  d_sum_ahead : FuncData
  F_sum_ahead : Fun K "sum_ahead" "sum_ahead" s_sum_ahead a_sum_ahead d_sum_ahead
  g_sum_ahead : mg "sum_ahead" = some (.ref a_sum_ahead)
  a_least : Addr
  d_least : FuncData
  F_least : Fun K "least" "least" s_least a_least d_least
  g_least : mg "least" = some (.ref a_least)
  a_table_of : Addr
  d_table_of : FuncData
  F_table_of : Fun K "table_of" "table_of" s_table_of a_table_of d_table_of
  g_table_of : mg "table_of" = some (.ref a_table_of)
  a_shortest : Addr
  d_shortest : FuncData
  F_shortest : Fun K "_shortest_turn" "_shortest_turn" s_shortest a_shortest d_shortest
  g_shortest : mg "_shortest_turn" = some (.ref a_shortest)
  a_alike : Addr
  d_alike : FuncData
  F_alike : Fun K "_alike_signs" "_alike_signs" s_alike a_alike d_alike
  g_alike : mg "_alike_signs" = some (.ref a_alike)
  a_values : Addr
  d_values : FuncData
  F_values : Fun K "values" "values" s_values a_values d_values
  g_values : mg "values" = some (.ref a_values)
  a_round_of : Addr
  d_round_of : FuncData
  F_round_of : Fun K "round_of" "round_of" s_round_of a_round_of d_round_of
  g_round_of : mg "round_of" = some (.ref a_round_of)
  a_reads : Addr
  d_reads : FuncData
  F_reads : Fun K "reads" "reads" s_reads a_reads d_reads
  g_reads : mg "reads" = some (.ref a_reads)
  a_deck : Addr
  d_deck : FuncData
  F_deck : Fun K "_law_deck" "_law_deck" s_deck a_deck d_deck
  g_deck : mg "_law_deck" = some (.ref a_deck)
  a_draw : Addr
  d_draw : FuncData
  F_draw : Fun K "_law_draw" "_law_draw" s_draw a_draw d_draw
  g_draw : mg "_law_draw" = some (.ref a_draw)
  a_pick : Addr
  d_pick : FuncData
  F_pick : Fun K "_law_pick" "_law_pick" s_pick a_pick d_pick
  g_pick : mg "_law_pick" = some (.ref a_pick)
  a_whole : Addr
  d_whole : FuncData
  F_whole : Fun K "_law_whole" "_law_whole" s_whole a_whole d_whole
  g_whole : mg "_law_whole" = some (.ref a_whole)
  a_rule : Addr
  d_rule : FuncData
  F_rule : Fun K "_law_rule" "_law_rule" s_rule a_rule d_rule
  g_rule : mg "_law_rule" = some (.ref a_rule)
  a_row : Addr
  d_row : FuncData
  F_row : Fun K "_law_row" "_law_row" s_row a_row d_row
  g_row : mg "_law_row" = some (.ref a_row)
  a_lleast : Addr
  d_lleast : FuncData
  F_lleast : Fun K "_law_least" "_law_least" s_lleast a_lleast d_lleast
  g_lleast : mg "_law_least" = some (.ref a_lleast)
  a_is_round : Addr
  d_is_round : FuncData
  F_is_round : Fun K "_law_is_round" "_law_is_round" s_is_round a_is_round d_is_round
  g_is_round : mg "_law_is_round" = some (.ref a_is_round)
  a_law : Addr
  d_law : FuncData
  F_law : Fun K "law" "law" s_law a_law d_law
  g_law : mg "law" = some (.ref a_law)
  n_abs : mg "abs" = none
  n_bool : mg "bool" = none
  n_int : mg "int" = none
  n_isinstance : mg "isinstance" = none
  n_len : mg "len" = none
  n_list : mg "list" = none
  n_range : mg "range" = none
  n_repr : mg "repr" = none
  n_str : mg "str" = none
  n_sum : mg "sum" = none
  n_tuple : mg "tuple" = none
  n_zip : mg "zip" = none
section
variable {K : PySem.W.Frag} {mg : Str → Option Value} (T : Tp K mg)
theorem b_sum_ahead : Binds K T.d_sum_ahead ["modulus", "factors", "ahead"] [] := T.F_sum_ahead.binds (ps := ["modulus", "factors", "ahead"]) fun _ _ _ _ _ _ us hl => match us, hl with | [_, _, _], _ => rfl
theorem b_least : Binds K T.d_least ["table"] [] := T.F_least.binds (ps := ["table"]) fun _ _ _ _ _ _ us hl => match us, hl with | [_], _ => rfl
theorem b_table_of : Binds K T.d_table_of ["row", "head"] [] := T.F_table_of.binds (ps := ["row", "head"]) fun _ _ _ _ _ _ us hl => match us, hl with | [_, _], _ => rfl
theorem b_shortest : Binds K T.d_shortest ["turn"] [] := T.F_shortest.binds (ps := ["turn"]) fun _ _ _ _ _ _ us hl => match us, hl with | [_], _ => rfl
theorem b_alike : Binds K T.d_alike ["head", "turn"] [] := T.F_alike.binds (ps := ["head", "turn"]) fun _ _ _ _ _ _ us hl => match us, hl with | [_, _], _ => rfl
theorem b_values : Binds K T.d_values ["rule", "many"] [] := T.F_values.binds (ps := ["rule", "many"]) fun _ _ _ _ _ _ us hl => match us, hl with | [_, _], _ => rfl
theorem b_round_of : Binds K T.d_round_of ["rule"] [] := T.F_round_of.binds (ps := ["rule"]) fun _ _ _ _ _ _ us hl => match us, hl with | [_], _ => rfl
theorem b_reads : Binds K T.d_reads ["rule", "value"] [] := T.F_reads.binds (ps := ["rule", "value"]) fun _ _ _ _ _ _ us hl => match us, hl with | [_, _], _ => rfl
theorem b_deck : Binds K T.d_deck ["_law_script"] [] := T.F_deck.binds (ps := ["_law_script"]) fun _ _ _ _ _ _ us hl => match us, hl with | [_], _ => rfl
theorem b_draw : Binds K T.d_draw ["_law_deck_here", "_law_many"] [] := T.F_draw.binds (ps := ["_law_deck_here", "_law_many"]) fun _ _ _ _ _ _ us hl => match us, hl with | [_, _], _ => rfl
theorem b_pick : Binds K T.d_pick ["_law_deck_here", "_law_items"] [] := T.F_pick.binds (ps := ["_law_deck_here", "_law_items"]) fun _ _ _ _ _ _ us hl => match us, hl with | [_, _], _ => rfl
theorem b_whole : Binds K T.d_whole ["_law_value", "_law_low", "_law_high"] [] := T.F_whole.binds (ps := ["_law_value", "_law_low", "_law_high"]) fun _ _ _ _ _ _ us hl => match us, hl with | [_, _, _], _ => rfl
theorem b_rule : Binds K T.d_rule ["_law_deck_here", "_law_most"] [] := T.F_rule.binds (ps := ["_law_deck_here", "_law_most"]) fun _ _ _ _ _ _ us hl => match us, hl with | [_, _], _ => rfl
theorem b_row : Binds K T.d_row ["_law_rule_here", "_law_many"] [] := T.F_row.binds (ps := ["_law_rule_here", "_law_many"]) fun _ _ _ _ _ _ us hl => match us, hl with | [_, _], _ => rfl
theorem b_lleast : Binds K T.d_lleast ["_law_head", "_law_turn"] [] := T.F_lleast.binds (ps := ["_law_head", "_law_turn"]) fun _ _ _ _ _ _ us hl => match us, hl with | [_, _], _ => rfl
theorem b_is_round : Binds K T.d_is_round ["_law_rule_here", "_law_value"] [] := T.F_is_round.binds (ps := ["_law_rule_here", "_law_value"]) fun _ _ _ _ _ _ us hl => match us, hl with | [_, _], _ => rfl
theorem b_law : Binds K T.d_law ["_law_script"] [] := T.F_law.binds (ps := ["_law_script"]) fun _ _ _ _ _ _ us hl => match us, hl with | [_], _ => rfl
end
set_option pp.deepTerms false
set_option pp.deepTerms.threshold 5
section
variable {P : Program} {wd : World} {K : PySem.W.Frag} {mg : Str → Option Value} {base : Heap} (T : Tp K mg)
theorem mem_ints {x : V} {ns : List Int} {xs : List V} (e : xs = ns.map V.int) (h : x ∈ xs) : ∃ i ∈ ns, x = .int i := by
  subst e
  obtain ⟨i, h1, h2⟩ := List.mem_map.mp h
  exact ⟨i, h1, h2.symm⟩
theorem cut63 {xs : List V} {n : Nat} (h : xs.length ≤ n) : cutV xs none (some (n : Int)) = xs := by
  unfold cutV
  rw [sIx_of _ _ (by omega)]
  show (xs.drop 0).take (min (n : Int).toNat xs.length - 0) = xs
  rw [List.drop_zero, Nat.sub_zero, Int.toNat_natCast, Nat.min_eq_right h, List.take_length]
abbrev Dk (w g c : Addr) (H : Hp) : Prop := DkC "mixed" w g c H
theorem kd {g c : Addr} {W k : Int} : valV (dkv "mixed" g c W k) (Sum.inr ("great" : Str)) = some (.ref g) ∧ valV (dkv "mixed" g c W k) (Sum.inr ("cells" : Str)) = some (.ref c) ∧
    valV (dkv "mixed" g c W k) (Sum.inr ("whole" : Str)) = some (.int W) ∧ valV (dkv "mixed" g c W k) (Sum.inr ("mixed" : Str)) = some (.int k) := dk_get (by decide)
def spDeck (K : PySem.W.Frag) : Sp := fun vs H Q _ => ∃ (a : Addr) (ns : List Int), vs = [.ref a] ∧ SqL K H a (ns.map V.int) ∧ ns.length ≤ 63 ∧
  ∀ w g c H', Same H H' → Dk w g c H' → Q (.ref w) H'
theorem ok_deck : FnOk P wd K mg base CX0 1 T.a_deck T.d_deck ["_law_script"] (spDeck K) := by
  refine T.F_deck.ok sc_deck (fun vs H Q E h => ?_) (fun cdv A outer s H vs Q E hr h => ?_)
  · obtain ⟨a, ns, rfl, _⟩ := h
    rfl
  · obtain ⟨a, ns, rfl, hS, hl, q⟩ := h
    refine ⟨_, (pss_cons (ps_set (i := 1) sc_deck.nd rfl (Or.inl rfl) (pe_callTy call_list_of rfl T.n_list (by decide +kernel) (pa_cons (pe_slice sl_list (pv 0) po_none (po_some pe_int)) pa_nil)))
      (pss_cons (ps_setLc (i := 2) (own := [("_law_cell", 3)]) rfl sc_deck.nd rfl rfl (sw_true rfl rfl rfl (by decide +kernel)) (pi_list (pv 1)) (blkOk_by (N := nm_deck) (sc := defScope s_deck) (by decide +kernel)) (fun _ _ _ _ _ => pg_name (i := 3) sc_deck.nd rfl (Or.inl rfl)) (fun _ _ _ _ _ => pts_one (pt_cmpR op_ge (pe_callB call_abs rfl T.n_abs (by decide +kernel) (pa_cons (pv 3) pa_nil)) (pe_op op_pow pe_int pe_int) (nomark _))) (fun _ _ _ _ _ => (pe_callB call_abs rfl T.n_abs (by decide +kernel) (pa_cons (pv 3) pa_nil))))
      (pss_one (ps_ret (pe_disp (pps_cons pe_str (pv 2) (pps_cons pe_str (pe_op op_cat (pv 1) (pe_lst (pa_cons (pe_op op_add pe_int (pe_callB call_len_seq rfl T.n_len PySem.boot_len (pa_cons (pv 1) pa_nil))) pa_nil))) (pps_cons pe_str (pe_callB (cr_sum rfl) rfl T.n_sum (by decide +kernel) (pa_cons (pv 1) pa_nil)) (pps_cons pe_str pe_int pps_nil)))) rfl rfl (by simp) (by decide)))))), ?_⟩
    walk_at "go"
    refine ⟨a, ns.map V.int, rfl, hS, ?_⟩
    rw [show (63 : Int) = ((63 : Nat) : Int) from rfl, cut63 (by rw [List.length_map]; exact hl)]
    intro c0 nc0
    generalize hU0 : upd H c0 _ = H0
    obtain ⟨s0, hc0⟩ := new_of0 nc0 hU0
    refine ⟨c0, _, rfl, .inl (sqL_of hc0), ?_⟩
    intro c nc
    generalize hU : upd H0 c _ = H1
    obtain ⟨s1', hc⟩ := new_of0 nc hU
    have s1 := s0.trans s1'
    walk_at "go"
    refine ⟨⟨_, sqL_of hc⟩, fun D nD => ?_⟩
    refine lc_list (xs := ns.map V.int) (fun i H2 => ∃ gs : List Int, H2 D = some (.lst (gs.map V.int)) ∧ gs.length ≤ i ∧ Same H1 H2) ⟨[], upd_same, Nat.zero_le _, same_new nD⟩
      (fun i H2 _ p => sqL_of (p.choose_spec.2.2 _ _ hc)) (fun i x H2 hx p => ?_) (fun H2 p => ?_)
    · obtain ⟨gs, hD, hg, S⟩ := p
      obtain ⟨z, _, rfl⟩ := mem_ints (x := x) (ns := ns) rfl (List.mem_of_getElem? hx)
      have hil : i < (ns.map V.int).length := (List.getElem?_eq_some_iff.mp hx).1
      rw [List.length_map] at hil
      refine ⟨rfl, ?_⟩
      walk_at "go"
      refine ifD (fun big => ?_) (fun nb => ?_)
      · walk_at "go"
        refine ⟨_, hD, small1000 (by rw [List.length_map]; omega), gs ++ [_], by rw [upd_same, List.map_append]; rfl, by rw [List.length_append]; simp; omega, same_mut S nD⟩
      · exact ⟨gs, hD, by omega, S⟩
    · obtain ⟨gs, hD, hg, S⟩ := p
      rw [List.length_map] at hg
      have hc2 := S _ _ hc
      walk_at "go"
      intro w nw
      generalize hU3 : upd H2 w _ = H5
      obtain ⟨s5, hw⟩ := new_of0 nw hU3
      have hD5 := s5 _ _ hD
      have hc5 := s5 _ _ hc2
      walk_at "go"
      intro l1 nl1
      generalize hU4 : upd H5 l1 _ = H6
      obtain ⟨s6, hl1⟩ := new_of0 nl1 hU4
      have hc6 := s6 _ _ hc5
      refine ⟨c, l1, _, _, rfl, rfl, hc6, hl1, szl (by rw [List.length_map]; simp; omega), fun c3 nc3 => ?_⟩
      generalize hU5 : upd H6 c3 _ = H7
      obtain ⟨s7, hc3⟩ := new_of0 nc3 hU5
      have hc7 := s7 _ _ hc6
      have hD7 := s7 _ _ (s6 _ _ hD5)
      walk_at "go"
      refine ⟨c, ns, rfl, sqL_of hc7, ?_⟩
      walk_at "go"
      have hw7 := s7 _ _ (s6 _ _ hw)
      refine ⟨hw7, dkv "mixed" D c3 ns.sum 0, rfl, by simp [dkv], ?_⟩
      have em : mergeK [] (dkv "mixed" D c3 ns.sum 0) = dkv "mixed" D c3 ns.sum 0 := by
        have e1 : (Sum.inr ("great" : Str) : Key) ≠ Sum.inr ("cells" : Str) := by decide
        have e2 : (Sum.inr ("great" : Str) : Key) ≠ Sum.inr ("whole" : Str) := by decide
        have e3 : (Sum.inr ("cells" : Str) : Key) ≠ Sum.inr ("whole" : Str) := by decide
        have e4 : (Sum.inr ("great" : Str) : Key) ≠ Sum.inr ("mixed" : Str) := by decide
        have e5 : (Sum.inr ("cells" : Str) : Key) ≠ Sum.inr ("mixed" : Str) := by decide
        have e6 : (Sum.inr ("whole" : Str) : Key) ≠ Sum.inr ("mixed" : Str) := by decide
        simp [mergeK, putK, dkv, e1, e2, e3, e4, e5, e6]
      rw [em]
      have Sall : Same H (upd H7 w (.dK (dkv "mixed" D c3 ns.sum 0))) := fun b o z => by
        have z4 := S _ _ (s1 _ _ z)
        rw [upd_ne (ne_of_none z4 nw)]
        exact s7 _ _ (s6 _ _ (s5 _ _ z4))
      obtain ⟨z, hz⟩ : ∃ z : Int, H7 c3 = some (.lst ((ns ++ [z]).map V.int)) := ⟨_, by rw [List.map_append]; exact hc3⟩
      have n1 : w ≠ D := ne_of hw7 hD7 (by intro z; cases z)
      have n2 : c3 ≠ D := (ne_of_none (s6 _ _ hD5) nc3).symm
      have n3 : c3 ≠ w := ne_of hz hw7 (by intro z; cases z)
      refine q w D c3 _ Sall ⟨gs, ns ++ [z], ns.sum, 0, n1, n2, n3, upd_same, (upd_ne n1.symm).trans hD7, (upd_ne n3).trans hz, by simp, by omega, by simp; omega⟩
section
variable {w g c : Addr} {M k : Int} {H : Hp}
theorem dg_great (hw : H w = some (.dK (dkv "mixed" g c M k))) : DGet H w (.str "great") (some (.ref g)) := kd.1 ▸ DGet.k (k := Sum.inr "great") hw
theorem dg_cells (hw : H w = some (.dK (dkv "mixed" g c M k))) : DGet H w (.str "cells") (some (.ref c)) := kd.2.1 ▸ DGet.k (k := Sum.inr "cells") hw
theorem dg_whole (hw : H w = some (.dK (dkv "mixed" g c M k))) : DGet H w (.str "whole") (some (.int M)) := kd.2.2.1 ▸ DGet.k (k := Sum.inr "whole") hw
theorem dg_drawn (hw : H w = some (.dK (dkv "mixed" g c M k))) : DGet H w (.str "mixed") (some (.int k)) := kd.2.2.2 ▸ DGet.k (k := Sum.inr "mixed") hw
end
def spDraw : Sp := fun vs H Q _ => ∃ (w g c : Addr) (n : Int), vs = [.ref w, .int n] ∧ Dk w g c H ∧ 0 < n ∧ n < 1073741824 ∧
  ∀ (d : Int) H', Go w g H H' → Dk w g c H' → 0 ≤ d → d < n → Q (.int d) H'
theorem kput {g c : Addr} {W k j : Int} : putK (dkv "mixed" g c W k) (Sum.inr ("mixed" : Str)) (.int j) = dkv "mixed" g c W j := by
  have e4 : (Sum.inr ("great" : Str) : Key) ≠ Sum.inr ("mixed" : Str) := by decide
  have e5 : (Sum.inr ("cells" : Str) : Key) ≠ Sum.inr ("mixed" : Str) := by decide
  have e6 : (Sum.inr ("whole" : Str) : Key) ≠ Sum.inr ("mixed" : Str) := by decide
  simp [putK, dkv, e4, e5, e6]
theorem ok_draw : FnOk P wd K mg base CX0 1 T.a_draw T.d_draw ["_law_deck_here", "_law_many"] spDraw := by
  refine T.F_draw.ok sc_draw (fun vs H Q E h => ?_) (fun cdv A outer s H vs Q E hr h => ?_)
  · obtain ⟨w, g, c, n, rfl, _⟩ := h
    rfl
  · have hu4 : (cxOf CX0 P wd K mg base nm_draw "_law_draw" (defScope s_draw) T.a_draw cdv A outer s H E).A.units + 64 < cLine := hr.units
    obtain ⟨w, g, c, n, rfl, W, n0, n1, q⟩ := h
    refine ⟨_, (pss_cons (ps_par (i := 2) (j := 3) rfl sc_draw.nd rfl rfl (by decide) rfl rfl (pa_cons (pe_dget (hu_of hr) (pv 0) pe_str (fun _ _ => rfl)) (pa_cons (pe_dget (hu_of hr) (pv 0) pe_str (fun _ _ => rfl)) pa_nil)) rfl)
      (pss_cons (ps_if (pt_cmpR (op_neD hu4) (pv 2) (pe_lst pa_nil) (nomark _)) (pss_cons (ps_set (i := 4) sc_draw.nd rfl (Or.inl rfl) (pe_ix ix_list (pv 2) pe_int (fun _ _ => rfl)))
      (pss_cons (ps_asg (pe_op op_fdiv (pv 4) (pv 1)) (pg_sub (pv 2) pe_int set_list))
      (pss_cons (ps_if (pt_cmpR op_eq (pe_ix ix_list (pv 2) pe_int (fun _ _ => rfl)) pe_int (nomark _)) (pss_one (ps_expr (pe_bm PySem.F.plainAttrs_list PySem.F.slot_list_pop PySem.F.type_list_pop mt_popAt (pv 2) (pa_cons pe_int pa_nil)))) pss_nil)
      (pss_one (ps_ret (pe_op op_mod (pe_callTy call_int1 rfl T.n_int (by decide +kernel) (pa_cons (pv 4) pa_nil)) (pv 1))))))) pss_nil)
      (pss_cons (ps_dput (hu_of hr) (pv 0) pe_str (pe_op op_add (pe_dget (hu_of hr) (pv 0) pe_str (fun _ _ => rfl)) pe_int) rfl)
      (pss_cons (ps_set (i := 5) sc_draw.nd rfl (Or.inl rfl) (pe_dget (hu_of hr) (pv 0) pe_str (fun _ _ => rfl)))
      (pss_cons (ps_set (i := 6) sc_draw.nd rfl (Or.inl rfl) (pe_op op_mod (pe_callTy call_int1 rfl T.n_int (by decide +kernel) (pa_cons (pe_op op_add (pe_op op_add (pe_ix ix_list (pv 3) (pe_op op_mod (pe_callTy call_int1 rfl T.n_int (by decide +kernel) (pa_cons (pv 5) pa_nil)) (pe_callB call_len_seq rfl T.n_len PySem.boot_len (pa_cons (pv 3) pa_nil))) (fun _ _ => rfl)) (pe_op op_mul pe_int (pe_dget (hu_of hr) (pv 0) pe_str (fun _ _ => rfl)))) (pe_op op_mul pe_int (pv 5))) pa_nil)) pe_int))
      (pss_cons (ps_set (i := 6) sc_draw.nd rfl (Or.inl rfl) (pe_op op_mod (pe_callTy call_int1 rfl T.n_int (by decide +kernel) (pa_cons (pe_op op_add (pe_op op_mul (pv 6) (pv 6)) (pe_op op_mul pe_int (pv 5))) pa_nil)) pe_int))
      (pss_one (ps_ret (pe_op op_mod (pe_op op_fdiv (pe_op op_mod (pe_callTy call_int1 rfl T.n_int (by decide +kernel) (pa_cons (pe_op op_mul (pv 6) (pv 6)) pa_nil)) pe_int) pe_int) (pv 1)))))))))), ?_⟩
    obtain ⟨gs, cs, M, k, e1, e2, e3, hw, hg, hc, h0, hgs, hcs⟩ := W
    walk_at "go"
    refine ⟨w, .ref g, rfl, dg_great hw, ?_⟩
    walk_at "go"
    refine ⟨w, .ref c, rfl, dg_cells hw, ?_⟩
    walk_at "go"
    intro o no
    have s1 : Same H (upd H o (.lst [])) := same_new no
    have ho : (upd H o (.lst [])) o = some (.lst []) := upd_same
    generalize upd H o (.lst []) = H1 at s1 ho
    replace hw := s1 _ _ hw
    replace hg := s1 _ _ hg
    replace hc := s1 _ _ hc
    refine ⟨.list (gs.map PyData.int), .list [], .lst (sqL_of hg) (dpAll_ints _), .lst (sqL_of ho) .nil, shaped_ints _, by rfl, _, rfl, ?_⟩
    rw [eqv_ints_nil]
    refine ifDn (fun hne => ?_) (fun he => ?_)
    · obtain ⟨r, gs', rfl⟩ : ∃ r gs', gs = r :: gs' := by
        cases gs with
        | nil => exact absurd rfl hne
        | cons r gs' => exact ⟨r, gs', rfl⟩
      walk_at "go"
      refine ⟨g, _, 0, 0, rfl, rfl, hg, ix_zero (by simp), ?_⟩
      have hg2 : (upd H1 g (.lst ((((r :: gs').map V.int)).set 0 (.int (r / n))))) g = some (.lst (((r / n) :: gs').map V.int)) := upd_same
      have hw2 : (upd H1 g (.lst ((((r :: gs').map V.int)).set 0 (.int (r / n))))) w = _ := (upd_ne e1).trans hw
      have hc2 : (upd H1 g (.lst ((((r :: gs').map V.int)).set 0 (.int (r / n))))) c = _ := (upd_ne e2).trans hc
      have s2 : Go w g H (upd H1 g (.lst ((((r :: gs').map V.int)).set 0 (.int (r / n))))) := fun a x n1 n2 e => by
        rw [upd_ne n2]
        exact s1 _ _ e
      show (_ : Hp → Prop) (upd H1 g (.lst ((((r :: gs').map V.int)).set 0 (.int (r / n)))))
      generalize upd H1 g (.lst ((((r :: gs').map V.int)).set 0 (.int (r / n)))) = H2 at hg2 hw2 hc2 s2
      walk_at "go"
      refine ifD (fun ez => ?_) (fun nz => ?_)
      · walk_at "go"
        refine ⟨Or.inl ⟨rfl, _, sqL_of hg2⟩, ?_⟩
        walk_at "go"
        refine ⟨_, _, 0, 0, .int (r / n), rfl, rfl, hg2, by decide, by decide, by rw [List.length_map, List.length_cons]; exact seq_zero _, rfl, ?_⟩
        have hg3 : (upd H2 g (.lst ((((r / n) :: gs').map V.int).eraseIdx 0))) g = some (.lst (gs'.map V.int)) := upd_same
        have hw3 : (upd H2 g (.lst ((((r / n) :: gs').map V.int).eraseIdx 0))) w = _ := (upd_ne e1).trans hw2
        have hc3 : (upd H2 g (.lst ((((r / n) :: gs').map V.int).eraseIdx 0))) c = _ := (upd_ne e2).trans hc2
        have s3 : Go w g H (upd H2 g (.lst ((((r / n) :: gs').map V.int).eraseIdx 0))) := fun a x n1 n2 e => by
          rw [upd_ne n2]
          exact s2 _ _ n1 n2 e
        generalize upd H2 g (.lst ((((r / n) :: gs').map V.int).eraseIdx 0)) = H3 at hg3 hw3 hc3 s3
        walk_at "go"
        exact q _ _ s3 ⟨_, cs, M, k, e1, e2, e3, hw3, hg3, hc3, h0, by rw [List.length_cons] at hgs; omega, hcs⟩ (Int.emod_nonneg _ (by omega)) (Int.emod_lt_of_pos _ n0)
      · walk_at "go"
        exact q _ _ s2 ⟨_, cs, M, k, e1, e2, e3, hw2, hg2, hc2, h0, by rw [List.length_cons] at hgs ⊢; omega, hcs⟩ (Int.emod_nonneg _ (by omega)) (Int.emod_lt_of_pos _ n0)
    · subst he
      walk_at "go"
      refine ⟨w, .int k, rfl, dg_drawn hw, ?_⟩
      walk_at "go"
      refine ⟨w, _, rfl, DPut.k (k := Sum.inr "mixed") hw (by show 4 < sizeLine; decide), ?_⟩
      rw [kput]
      have hw2 : (upd H1 w (.dK (dkv "mixed" g c M (k + 1)))) w = some (.dK (dkv "mixed" g c M (k + 1))) := upd_same
      have hg2 : (upd H1 w (.dK (dkv "mixed" g c M (k + 1)))) g = _ := (upd_ne e1.symm).trans hg
      have hc2 : (upd H1 w (.dK (dkv "mixed" g c M (k + 1)))) c = _ := (upd_ne e3).trans hc
      have s2 : Go w g H (upd H1 w (.dK (dkv "mixed" g c M (k + 1)))) := fun a x n1 n2 e => by
        rw [upd_ne n1]
        exact s1 _ _ e
      generalize upd H1 w (.dK (dkv "mixed" g c M (k + 1))) = H2 at hg2 hw2 hc2 s2
      have hm : ((k + 1) % (((cs.map V.int).length : Nat) : Int)).toNat < cs.length := by
        rw [List.length_map]
        have h1 := Int.emod_nonneg (k + 1) (show (cs.length : Int) ≠ 0 by omega)
        have h2 := Int.emod_lt_of_pos (k + 1) (show 0 < (cs.length : Int) by omega)
        omega
      obtain ⟨x, hx⟩ : ∃ x, cs[((k + 1) % (((cs.map V.int).length : Nat) : Int)).toNat]? = some x := ⟨_, List.getElem?_eq_getElem hm⟩
      walk_at "go"
      refine ⟨w, .int (k + 1), rfl, dg_drawn hw2, ?_⟩
      walk_at "go"
      refine go_ixLi (xs := cs.map V.int) (v := .int x) hc2 (j := ((k + 1) % (((cs.map V.int).length : Nat) : Int)).toNat) ?_ (by rw [List.getElem?_map, hx]; rfl) ?_
      · rw [Int.toNat_of_nonneg (Int.emod_nonneg _ (by rw [List.length_map]; omega))]
      walk_at "go"
      refine ⟨w, .int M, rfl, dg_whole hw2, ?_⟩
      walk_at "go"
      exact q _ _ s2 ⟨[], cs, M, k + 1, e1, e2, e3, hw2, hg2, hc2, h0, hgs, hcs⟩ (Int.emod_nonneg _ (by omega)) (Int.emod_lt_of_pos _ n0)
/-- one of the items -/
def spPick : Sp := fun vs H Q _ => ∃ (w g c l : Addr) (xs : List V), vs = [.ref w, .ref l] ∧ Dk w g c H ∧ Ac w g c H l (.lst xs) ∧ 0 < xs.length ∧ xs.length < 1000000 ∧
  ∀ x H', x ∈ xs → Go w g H H' → Dk w g c H' → Q x H'
theorem ok_pick : FnOk P wd K mg base CX0 2 T.a_pick T.d_pick ["_law_deck_here", "_law_items"] spPick := by
  have G_draw : FnOk P wd K mg base CX0 1 T.a_draw T.d_draw ["_law_deck_here", "_law_many"] spDraw := ok_draw T
  refine T.F_pick.ok sc_pick (fun vs H Q E h => ?_) (fun cdv A outer s H vs Q E hr h => ?_)
  · obtain ⟨w, g, c, l, xs, rfl, _⟩ := h
    rfl
  · obtain ⟨w, g, c, l, xs, rfl, W, L, l0, l1, q⟩ := h
    refine ⟨_, (pss_one (ps_ret (pe_ix ix_list (pv 1) (pe_call G_draw hr rfl T.g_draw T.F_draw.kp (b_draw T) .nil pass0 (pa_cons (pv 0) (pa_cons (pe_callB call_len_seq rfl T.n_len PySem.boot_len (pa_cons (pv 1) pa_nil)) pa_nil))) (fun _ _ => rfl)))), ?_⟩
    have hl := L.at_
    walk_at "go"
    refine ⟨w, g, c, _, rfl, W, by omega, by omega, fun d H' s1 W1 d0 d1 => ?_⟩
    have hl1 := (L.go s1).at_
    obtain ⟨x, hx⟩ : ∃ x, xs[d.toNat]? = some x := ⟨_, List.getElem?_eq_getElem (by omega)⟩
    refine go_ixLi hl1 (j := d.toNat) (by omega) hx ?_
    exact q x H' (List.mem_of_getElem? hx) s1 W1
end
set_option pp.deepTerms false
set_option pp.deepTerms.threshold 5
section
variable {P : Program} {wd : World} {K : PySem.W.Frag} {mg : Str → Option Value} {base : Heap} (T : Tp K mg)
abbrev nV (l : List Nat) : List V := l.map fun k => V.int (k : Nat)
theorem nV_len (l : List Nat) : (nV l).length = l.length := List.length_map ..
theorem nV_get {l : List Nat} {i : Nat} {v : V} (h : (nV l)[i]? = some v) : ∃ k, l[i]? = some k ∧ v = .int (k : Nat) := by
  rw [List.getElem?_map] at h
  cases e : l[i]? with
  | none => rw [e] at h; cases h
  | some k => rw [e] at h; exact ⟨k, rfl, (Option.some.inj h).symm⟩
theorem nV_snoc (l : List Nat) (a : Nat) : nV (l ++ [a]) = nV l ++ [.int (a : Nat)] := List.map_append
theorem nV_rev (l : List Nat) : (nV l).reverse = nV l.reverse := (List.map_reverse ..).symm
def spSum : Sp := fun vs H Q _ => ∃ (af al : Addr) (m : Nat) (fs as : List Nat), vs = [.int m, .ref af, .ref al] ∧ H af = some (.tup (nV fs)) ∧ (H al = some (.lst (nV as)) ∨ H al = some (.tup (nV as))) ∧
  0 < m ∧ fs.length ≤ 4 ∧ (∀ f, f ∈ fs → f < 10) ∧ (∀ a, a ∈ as → a < 10) ∧ as.length ≤ 1000 ∧ ∀ H', Same H H' → Q (.int ((nxt m fs as : Nat) : Int)) H'
theorem to_val {R : V → Hp → Prop} {v v' : V} {H : Hp} (e : v = v') (h : R v' H) : R v H := e ▸ h
theorem zw_succ {fs as : List Nat} {i f a : Nat} (hf : fs[i]? = some f) (ha : as[i]? = some a) : (List.zipWith (· * ·) fs as).take (i + 1) = (List.zipWith (· * ·) fs as).take i ++ [f * a] := by
  have e : (List.zipWith (· * ·) fs as)[i]? = some (f * a) := by
    rw [List.getElem?_zipWith, hf, ha]
  rw [List.take_add_one, e]
  rfl
theorem sum_nat (l : List Nat) : (l.map fun k => ((k : Nat) : Int)).sum = ((l.sum : Nat) : Int) := by
  induction l with
  | nil => rfl
  | cons a l ih => rw [List.map_cons, List.sum_cons, ih, List.sum_cons]; omega
theorem nV_ints (l : List Nat) : nV l = (l.map fun k => ((k : Nat) : Int)).map V.int := by rw [List.map_map]; rfl
theorem ok_sum_ahead : FnOk P wd K mg base CX0 1 T.a_sum_ahead T.d_sum_ahead ["modulus", "factors", "ahead"] spSum := by
  refine T.F_sum_ahead.ok sc_sum_ahead (fun vs H Q E h => ?_) (fun cdv A outer s H vs Q E hr h => ?_)
  · obtain ⟨af, al, m, fs, as, rfl, _⟩ := h
    rfl
  · obtain ⟨af, al, m, fs, as, rfl, hf, ha, m0, f4, fm, am, al1, q⟩ := h
    refine ⟨_, (pss_one (ps_ret (pe_op op_mod (pe_callB (cr_sum rfl) rfl T.n_sum (by decide +kernel) (pa_cons (pe_lc (own := [("factor", 3), ("number", 4)]) (g := gTup K 2 (gCons (gName 3) (gCons (gName 4) gNil))) rfl sc_sum_ahead.nd (PI.or (pi_zipM rfl T.n_zip (pa_cons (pv 1) (pa_cons (pe_revL (pv 2)) pa_nil))) (RZ.pi_zipA rfl T.n_zip (pa_cons (pv 1) (pa_cons (pe_revT (pv 2)) pa_nil)))) (blkOk_by (N := nm_sum_ahead) (sc := defScope s_sum_ahead) (by decide +kernel)) (fun _ _ _ _ _ => pg_tup rfl (pgs_cons (pg_name (i := 3) sc_sum_ahead.nd rfl (Or.inl rfl) (Or.inr rfl)) (pgs_cons (pg_name (i := 4) sc_sum_ahead.nd rfl (Or.inl rfl) (Or.inr rfl)) pgs_nil))) (fun _ _ _ _ _ => pts_nil) (fun _ _ _ _ _ => (pe_op op_mul (pv 3) (pv 4)))) pa_nil)) (pv 0)))), ?_⟩
    have nn : ∀ i f a : Nat, fs[i]? = some f → as.reverse[i]? = some a → f < 10 ∧ a < 10 := fun i f a h1 h2 =>
      ⟨fm f (List.mem_of_getElem? h1), am a (List.mem_reverse.mp (List.mem_of_getElem? h2))⟩
    rcases ha with ha | ha
    · walk_at "go"
      intro ar nr
      generalize hU : upd H ar _ = H1
      obtain ⟨s1, hr1⟩ := new_of0 nr hU
      rw [nV_rev] at hr1
      walk_at "go"
      refine ⟨af, ar, nV fs, nV as.reverse, rfl, sqT_of (s1 _ _ hf), sqL_of hr1, fun D nD => ?_⟩
      refine lc_it (walk_zipM rfl) (fun i H2 => H2 D = some (.lst (nV ((List.zipWith (· * ·) fs as.reverse).take i))) ∧ Same H1 H2) ⟨upd_same, same_new nD⟩
        (fun i H2 _ p => ⟨sqT_of (p.2 _ _ (s1 _ _ hf)), sqL_of (p.2 _ _ hr1)⟩) (fun i x H2 H3 hi p y => ?_) (fun H2 p => ?_)
      · obtain ⟨hD, S⟩ := p
        obtain ⟨T', x, y, rfl, hT, rfl, hx, hy⟩ := y
        obtain ⟨f, ef, rfl⟩ := nV_get hx
        obtain ⟨a, ea, rfl⟩ := nV_get hy
        obtain ⟨f10, a10⟩ := nn i f a ef ea
        generalize hU2 : upd H2 T' _ = H4
        obtain ⟨s4, hT4⟩ := new_of0 hT hU2
        have hD4 := s4 _ _ hD
        have S4 := S.trans s4
        walk_at "go"
        have i4 : i < 4 := by rw [nV_len] at hi; omega
        refine ⟨_, hD4, small1000 (by rw [nV_len, List.length_take]; omega), ?_⟩
        refine ⟨?_, same_mut S4 nD⟩
        rw [upd_same, zw_succ ef ea, nV_snoc, Int.natCast_mul]
      · obtain ⟨hD, S⟩ := p
        rw [List.take_of_length_le (by rw [List.length_zipWith, nV_len, nV_len]; exact Nat.le_refl _)] at hD
        refine ⟨D, (List.zipWith (· * ·) fs as.reverse).map fun k => ((k : Nat) : Int), rfl, sqL_of (by rw [hD, nV_ints]), ?_⟩
        rw [sum_nat]
        walk_at "go"
        refine to_val ?_ (q H2 (s1.trans S))
        show V.int (_ % _) = _
        rw [← Int.natCast_emod]
        rfl
    · refine Or.inr ?_
      walk_at "go"
      intro ar nr
      generalize hU : upd H ar _ = H1
      obtain ⟨s1, hr1⟩ := new_of0 nr hU
      rw [nV_rev] at hr1
      walk_at "go"
      refine ⟨af, ar, nV fs, nV as.reverse, rfl, .inr ⟨sqT_of (s1 _ _ hf), sqT_of hr1, fun D nD => ?_⟩⟩
      refine lc_it (walk_zipT rfl) (fun i H2 => H2 D = some (.lst (nV ((List.zipWith (· * ·) fs as.reverse).take i))) ∧ Same H1 H2) ⟨upd_same, same_new nD⟩
        (fun i H2 _ p => ⟨sqT_of (p.2 _ _ (s1 _ _ hf)), sqT_of (p.2 _ _ hr1)⟩) (fun i x H2 H3 hi p y => ?_) (fun H2 p => ?_)
      · obtain ⟨hD, S⟩ := p
        obtain ⟨T', x, y, rfl, hT, rfl, hx, hy⟩ := y
        obtain ⟨f, ef, rfl⟩ := nV_get hx
        obtain ⟨a, ea, rfl⟩ := nV_get hy
        obtain ⟨f10, a10⟩ := nn i f a ef ea
        generalize hU2 : upd H2 T' _ = H4
        obtain ⟨s4, hT4⟩ := new_of0 hT hU2
        have hD4 := s4 _ _ hD
        have S4 := S.trans s4
        walk_at "go"
        have i4 : i < 4 := by rw [nV_len] at hi; omega
        refine ⟨_, hD4, small1000 (by rw [nV_len, List.length_take]; omega), ?_⟩
        refine ⟨?_, same_mut S4 nD⟩
        rw [upd_same, zw_succ ef ea, nV_snoc, Int.natCast_mul]
      · obtain ⟨hD, S⟩ := p
        rw [List.take_of_length_le (by rw [List.length_zipWith, nV_len, nV_len]; exact Nat.le_refl _)] at hD
        refine ⟨D, (List.zipWith (· * ·) fs as.reverse).map fun k => ((k : Nat) : Int), rfl, sqL_of (by rw [hD, nV_ints]), ?_⟩
        rw [sum_nat]
        walk_at "go"
        refine to_val ?_ (q H2 (s1.trans S))
        show V.int (_ % _) = _
        rw [← Int.natCast_emod]
        rfl
end
set_option pp.deepTerms false
set_option pp.deepTerms.threshold 5
section
variable {P : Program} {wd : World} {K : PySem.W.Frag} {mg : Str → Option Value} {base : Heap} (T : Tp K mg)
/-- a rule at r -/
structure RuleAt (H : Hp) (r af ab : Addr) (m : Nat) (fs bs : List Nat) : Prop where
  at_ : H r = some (.tup [.int m, .ref af, .ref ab])
  fat : H af = some (.tup (nV fs))
  bat : H ab = some (.tup (nV bs))
  rl : Rl m fs bs
theorem RuleAt.same {H H' : Hp} {r af ab : Addr} {m : Nat} {fs bs : List Nat} (x : RuleAt H r af ab m fs bs) (s : Same H H') : RuleAt H' r af ab m fs bs :=
  ⟨s _ _ x.at_, s _ _ x.fat, s _ _ x.bat, x.rl⟩
theorem RuleAt.go {w g c : Addr} {H H' : Hp} {r af ab : Addr} {m : Nat} {fs bs : List Nat} (x : RuleAt H r af ab m fs bs) (W : Dk w g c H) (s : Go w g H H') : RuleAt H' r af ab m fs bs :=
  ⟨((W.tup x.at_).go s).at_, ((W.tup x.fat).go s).at_, ((W.tup x.bat).go s).at_, x.rl⟩
theorem cutV_last {xs : List V} {k : Nat} (k1 : 1 ≤ k) (hk : k ≤ xs.length) : cutV xs (some (-(k : Int))) none = xs.drop (xs.length - k) := by
  unfold cutV
  have e : HT.sIx xs.length 0 (some (-(k : Int))) = xs.length - k := by
    show (if (-(k : Int)) < 0 then (-(k : Int) + (xs.length : Int)).toNat else _) = _
    rw [if_pos (by omega)]
    omega
  rw [e]
  show (xs.drop (xs.length - k)).take (xs.length - (xs.length - k)) = _
  rw [List.take_of_length_le (by rw [List.length_drop]; omega)]
theorem cutV_to {xs : List V} {n : Nat} : cutV xs none (some (n : Int)) = xs.take n := by
  unfold cutV
  rw [sIx_of _ _ (by omega)]
  show (xs.drop 0).take (min (n : Int).toNat xs.length - 0) = _
  rw [List.drop_zero, Nat.sub_zero, Int.toNat_natCast, ← List.take_eq_take_min]
theorem cutV_from1 {xs : List V} (h : 1 ≤ xs.length) : cutV xs (some 1) none = xs.drop 1 := by
  unfold cutV
  rw [sIx_of _ _ (by omega)]
  show (xs.drop (min (1 : Int).toNat xs.length)).take (xs.length - min (1 : Int).toNat xs.length) = _
  rw [show min (1 : Int).toNat xs.length = 1 by show min 1 xs.length = 1; omega, List.take_of_length_le (by rw [List.length_drop]; omega)]
theorem nV_take (l : List Nat) (n : Nat) : (nV l).take n = nV (l.take n) := by rw [← List.map_take]
theorem nV_drop (l : List Nat) (n : Nat) : (nV l).drop n = nV (l.drop n) := by rw [← List.map_drop]
theorem rl10 {m : Nat} {fs bs : List Nat} (r : Rl m fs bs) : (∀ f, f ∈ fs → f < 10) ∧ ∀ n a, a ∈ st m fs bs n → a < 10 := by
  have := r.m9
  exact ⟨fun f hf => by have := r.fm f hf; omega, fun n a ha => by have := st_lt r n a ha; omega⟩
def spValues : Sp := fun vs H Q _ => ∃ (r af ab : Addr) (m : Nat) (fs bs : List Nat) (n : Nat), vs = [.ref r, .int n] ∧ RuleAt H r af ab m fs bs ∧ n ≤ 40000 ∧
  ∀ p H', Same H H' → H' p = some (.tup (nV (rw_ m fs bs n))) → Q (.ref p) H'
theorem ok_values : FnOk P wd K mg base CX0 2 T.a_values T.d_values ["rule", "many"] spValues := by
  have G_sum_ahead : FnOk P wd K mg base CX0 1 T.a_sum_ahead T.d_sum_ahead ["modulus", "factors", "ahead"] spSum := ok_sum_ahead T
  refine T.F_values.ok sc_values (fun vs H Q E h => ?_) (fun cdv A outer s H vs Q E hr h => ?_)
  · obtain ⟨r, af, ab, m, fs, bs, n, rfl, _⟩ := h
    rfl
  · obtain ⟨r, af, ab, m, fs, bs, n, rfl, R, n4, q⟩ := h
    refine ⟨_, (pss_cons (ps_asg (pv 0) (pg_tup rfl (pgs_cons (pg_name (i := 2) sc_values.nd rfl (Or.inl rfl)) (pgs_cons (pg_name (i := 3) sc_values.nd rfl (Or.inl rfl)) (pgs_cons (pg_name (i := 4) sc_values.nd rfl (Or.inl rfl)) pgs_nil)))))
      (pss_cons (ps_set (i := 5) sc_values.nd rfl (Or.inl rfl) (pe_callTy call_list_of rfl T.n_list (by decide +kernel) (pa_cons (pv 4) pa_nil)))
      (pss_cons (ps_while PassesOwn.never (pt_cmpR op_lt (pe_callB call_len_seq rfl T.n_len PySem.boot_len (pa_cons (pv 5) pa_nil)) (pv 1) (nomark _)) (pss_one (ps_expr (pe_bm PySem.F.plainAttrs_list PySem.F.slot_list_append PySem.F.type_list_append mt_append (pv 5) (pa_cons (pe_call G_sum_ahead hr rfl T.g_sum_ahead T.F_sum_ahead.kp (b_sum_ahead T) .nil pass0 (pa_cons (pv 2) (pa_cons (pv 3) (pa_cons (pe_slice sl_list (pv 5) (po_some (pe_un un_neg (pe_callB call_len_seq rfl T.n_len PySem.boot_len (pa_cons (pv 3) pa_nil)))) po_none) pa_nil)))) pa_nil)))))
      (pss_one (ps_ret (pe_callTy call_tuple_of rfl T.n_tuple (by decide +kernel) (pa_cons (pe_slice sl_list (pv 5) po_none (po_some (pv 1))) pa_nil))))))), ?_⟩
    have h1 := R.at_
    have rl := R.rl
    have f1 := rl.f1
    have f4 := rl.f4
    walk_at "go"
    refine ⟨ab, _, rfl, .inr (sqT_of R.bat), fun L nL => ?_⟩
    have s0 : Same H (upd H L (.lst (nV bs))) := same_new nL
    refine ⟨fun μ σ H2 => ∃ (j : Nat) (H3 : Hp), σ = [some (.ref r), some (.int n), some (.int m), some (.ref af), some (.ref ab), some (.ref L)] ∧ H2 = upd H3 L (.lst (nV (rw_ m fs bs j))) ∧ Same H H3 ∧ fs.length ≤ j ∧ (j ≤ n ∨ j = fs.length) ∧ μ = n - j,
      ⟨n - fs.length, fs.length, H, rfl, by rw [rw_begin rl], Same.rfl', Nat.le_refl _, .inr rfl, rfl⟩, fun μ σ H2 p => ?_⟩
    obtain ⟨j, H3, rfl, rfl, S, hj, hjn, rfl⟩ := p
    have hL : (upd H3 L (.lst (nV (rw_ m fs bs j)))) L = some (.lst (nV (rw_ m fs bs j))) := upd_same
    have S1 : Same H (upd H3 L (.lst (nV (rw_ m fs bs j)))) := same_mut S nL
    generalize upd H3 L (.lst (nV (rw_ m fs bs j))) = H4 at hL S1
    have hfa := S1 _ _ R.fat
    walk_at "go"
    refine ifD (fun lt => ?_) (fun nlt => ?_)
    · rw [nV_len, rw_len] at lt
      refine ⟨fun σ' H' => σ' = [some (.ref r), some (.int n), some (.int m), some (.ref af), some (.ref ab), some (.ref L)] ∧ ∃ H3 : Hp, H' = upd H3 L (.lst (nV (rw_ m fs bs (j + 1)))) ∧ Same H H3, fun σ' H' p => ?_, ?_⟩
      · obtain ⟨rfl, H3, rfl, S3⟩ := p
        exact ⟨n - (j + 1), by omega, j + 1, H3, rfl, rfl, S3, by omega, by omega, rfl⟩
      · refine ⟨_, rfl, ?_⟩
        refine ⟨Or.inl ⟨rfl, _, sqL_of hL⟩, ?_⟩
        walk_at "go"
        intro D nD
        generalize hU : upd H4 D _ = H5
        obtain ⟨s5, hD⟩ := new_of0 nD hU
        have e1 : cutV (nV (rw_ m fs bs j)) (some (-(((nV fs).length : Nat) : Int))) none = nV (st m fs bs (j - fs.length)) := by
          rw [cutV_last (by rw [nV_len]; omega) (by rw [nV_len, nV_len, rw_len]; omega), nV_drop, nV_len, nV_len, rw_len]
          congr 1
          have := st_row rl (j - fs.length)
          rw [show j - fs.length + fs.length = j by omega] at this
          exact this
        refine ⟨af, D, m, fs, st m fs bs (j - fs.length), rfl, s5 _ _ hfa, .inl (by rw [hD, e1]), by have := rl.m2; omega, f4, (rl10 rl).1, (rl10 rl).2 _, by rw [st_len rl]; omega, fun H6 s6 => ?_⟩
        have hL6 := s6 _ _ (s5 _ _ hL)
        have e2 : nxt m fs (st m fs bs (j - fs.length)) = xv m fs bs j := by
          have := x_next rl (j - fs.length)
          rw [show j - fs.length + fs.length = j by omega] at this
          exact this.symm
        rw [e2]
        refine ⟨L, _, _, rfl, rfl, hL6, Nat.lt_of_le_of_lt (by rw [nV_len, rw_len]; omega : _ ≤ 40000) (by decide), ?_⟩
        refine ⟨rfl, H6, by rw [rw_succ, nV_snoc], (S1.trans s5).trans s6⟩
    · rw [nV_len, rw_len] at nlt
      walk_at "go"
      intro D nD
      generalize hU : upd H4 D _ = H5
      obtain ⟨s5, hD⟩ := new_of0 nD hU
      rw [cutV_to, nV_take, rw_take, Nat.min_eq_left (by omega)] at hD
      refine ⟨D, _, rfl, .inl ⟨sqL_of hD, fun p np => ?_⟩⟩
      exact q p _ ((S1.trans s5).trans (same_new np)) upd_same
/-- the key of a state -/
def keyL (l : List Nat) : List Key := l.map fun k => Sum.inl ((k : Nat) : Int)
theorem keyL_kV (l : List Nat) : (keyL l).map kV = nV l := by
  unfold keyL
  rw [List.map_map]
  rfl
theorem keyL_inj {l k : List Nat} (h : keyL l = keyL k) : l = k := by
  unfold keyL at h
  refine (List.map_inj_right (f := fun k : Nat => (Sum.inl ((k : Nat) : Int) : Key)) fun x y e => ?_).mp h
  have := Sum.inl.inj e
  omega
/-- the states so far and their places -/
structure Seen (m : Nat) (fs bs : List Nat) (n : Nat) (kvs : List (List Key × V)) : Prop where
  len : kvs.length = n
  at_ : ∀ j, j < n → valV kvs (keyL (st m fs bs j)) = some (.int (j : Nat))
  no : ∀ l, (∀ j, j < n → st m fs bs j ≠ l) → valV kvs (keyL l) = none
  ne : ∀ i j, i < j → j < n → st m fs bs i ≠ st m fs bs j
theorem Seen.put {m : Nat} {fs bs : List Nat} {n : Nat} {kvs : List (List Key × V)} (x : Seen m fs bs n kvs) (h : ∀ j, j < n → st m fs bs j ≠ st m fs bs n) :
    Seen m fs bs (n + 1) (putK kvs (keyL (st m fs bs n)) (.int (n : Nat))) := by
  refine ⟨?_, fun j hj => ?_, fun l hl => ?_, fun i j hij hj => ?_⟩
  · rw [putK_new _ (x.no _ h), List.length_append, x.len]
    rfl
  · rw [valV_put]
    by_cases e : j = n
    · subst e
      rw [if_pos rfl]
    · rw [if_neg fun z => h j (by omega) (keyL_inj z), x.at_ j (by omega)]
  · rw [valV_put, if_neg fun z => hl n (by omega) (keyL_inj z).symm, x.no l fun j hj => hl j (by omega)]
  · by_cases e : j = n
    · subst e
      exact h i hij
    · exact x.ne i j hij (by omega)
theorem st_tail (m : Nat) (fs bs : List Nat) (n : Nat) : st m fs bs (n + 1) = (st m fs bs n).drop 1 ++ [nxt m fs (st m fs bs n)] := by
  rw [List.drop_one]
  rfl
def spRound : Sp := fun vs H Q _ => ∃ (r af ab : Addr) (m : Nat) (fs bs : List Nat), vs = [.ref r] ∧ RuleAt H r af ab m fs bs ∧
  ∀ p H' (h t : Nat), Same H H' → IsRound m fs bs h t → H' p = some (.tup [.int h, .int t]) → Q (.ref p) H'
theorem ok_round_of : FnOk P wd K mg base CX0 2 T.a_round_of T.d_round_of ["rule"] spRound := by
  have G_sum_ahead : FnOk P wd K mg base CX0 1 T.a_sum_ahead T.d_sum_ahead ["modulus", "factors", "ahead"] spSum := ok_sum_ahead T
  refine T.F_round_of.ok sc_round_of (fun vs H Q E h => ?_) (fun cdv A outer s H vs Q E hr h => ?_)
  · obtain ⟨r, af, ab, m, fs, bs, rfl, _⟩ := h
    rfl
  · obtain ⟨r, af, ab, m, fs, bs, rfl, R, q⟩ := h
    refine ⟨_, (pss_cons (ps_asg (pv 0) (pg_tup rfl (pgs_cons (pg_name (i := 1) sc_round_of.nd rfl (Or.inl rfl)) (pgs_cons (pg_name (i := 2) sc_round_of.nd rfl (Or.inl rfl)) (pgs_cons (pg_name (i := 3) sc_round_of.nd rfl (Or.inl rfl)) pgs_nil)))))
      (pss_cons (ps_set (i := 4) sc_round_of.nd rfl (Or.inl rfl) pe_dnewT)
      (pss_cons (ps_while PassesOwn.never (pt_cmp (pc_dnotin (hu_of hr) (pv 3) (pv 4))) (pss_cons (ps_dput (hu_of hr) (pv 4) (pv 3) (pe_callB call_len_dT rfl T.n_len PySem.boot_len (pa_cons (pv 4) pa_nil)) rfl)
      (pss_one (ps_set (i := 3) sc_round_of.nd rfl (Or.inl rfl) (pe_op op_catA (pe_slice sl_tupA (pv 3) (po_some pe_int) po_none) (pe_tup (pa_cons (pe_call G_sum_ahead hr rfl T.g_sum_ahead T.F_sum_ahead.kp (b_sum_ahead T) .nil pass0 (pa_cons (pv 1) (pa_cons (pv 2) (pa_cons (pv 3) pa_nil)))) pa_nil)))))))
      (pss_one (ps_ret (pe_tup (pa_cons (pe_dget (hu_of hr) (pv 4) (pv 3) (fun _ _ => rfl)) (pa_cons (pe_op op_sub (pe_callB call_len_dT rfl T.n_len PySem.boot_len (pa_cons (pv 4) pa_nil)) (pe_dget (hu_of hr) (pv 4) (pv 3) (fun _ _ => rfl))) pa_nil)))))))), ?_⟩
    have h1 := R.at_
    have rl := R.rl
    have f1 := rl.f1
    have f4 := rl.f4
    have big := rl.big
    walk_at "go"
    intro D nD
    refine ⟨fun μ σ H2 => ∃ (n : Nat) (ah : Addr) (kvs : List (List Key × V)), σ = [some (.ref r), some (.int m), some (.ref af), some (.ref ah), some (.ref D)] ∧ H2 D = some (.dT kvs) ∧ Same H H2 ∧ H2 ah = some (.tup (nV (st m fs bs n))) ∧ Seen m fs bs n kvs ∧ μ = m ^ fs.length - n,
      ⟨m ^ fs.length - 0, 0, ab, [], rfl, upd_same, same_new nD, (upd_ne (ne_of_none R.bat nD)).trans R.bat, ⟨rfl, fun j hj => by omega, fun l _ => rfl, fun i j _ hj => by omega⟩, rfl⟩, fun μ σ H4 p => ?_⟩
    obtain ⟨n, ah, kvs, rfl, hD, S1, hah4, X, rfl⟩ := p
    have hfa := S1 _ _ R.fat
    have hk : H4 ah = some (.tup ((keyL (st m fs bs n)).map kV)) := by rw [keyL_kV]; exact hah4
    walk_at "go"
    refine ⟨D, _, rfl, DGet.t (k := keyL (st m fs bs n)) hD hk, ?_⟩
    by_cases c : ∀ j, j < n → st m fs bs j ≠ st m fs bs n
    · rw [X.no _ c]
      refine ⟨true, rfl, ifT ?_⟩
      have XP := X.put c
      have hn := ne_bound rl XP.ne
      refine ⟨fun σ' H' => ∃ ah' : Addr, σ' = [some (.ref r), some (.int m), some (.ref af), some (.ref ah'), some (.ref D)] ∧ H' D = some (.dT (putK kvs (keyL (st m fs bs n)) (.int (n : Nat)))) ∧ Same H H' ∧ H' ah' = some (.tup (nV (st m fs bs (n + 1)))), fun σ' H' p => ?_, ?_⟩
      · obtain ⟨ah', rfl, hD', S', ha'⟩ := p
        exact ⟨m ^ fs.length - (n + 1), by omega, n + 1, ah', _, rfl, hD', S', ha', XP, rfl⟩
      · walk_at "go"
        refine ⟨D, kvs, rfl, hD, ?_⟩
        walk_at "go"
        refine ⟨D, _, rfl, DPut.t (k := keyL (st m fs bs n)) hD hk (Nat.lt_of_le_of_lt (by rw [X.len]; omega : _ ≤ 5000) (by decide)), ?_⟩
        rw [X.len]
        have nah : ah ≠ D := ne_of hah4 hD (by intro z; cases z)
        generalize hU : upd H4 D _ = H5
        have hD5 : H5 D = some (.dT (putK kvs (keyL (st m fs bs n)) (.int (n : Nat)))) := by rw [← hU]; exact upd_same
        have hah5 : H5 ah = some (.tup (nV (st m fs bs n))) := by rw [← hU]; exact (upd_ne nah).trans hah4
        have S5 : Same H H5 := by rw [← hU]; exact same_mut S1 nD
        walk_at "go"
        have ln : (nV (st m fs bs n)).length = fs.length := by rw [nV_len, st_len rl]
        refine ⟨ah, _, rfl, sqT_of hah5, fun z => ?_, fun _ a1 na1 => ?_⟩
        · exfalso
          have z1 := z.1
          rw [sIx_of _ _ (by omega), ln] at z1
          have : (1 : Int).toNat = 1 := rfl
          omega
        · rw [cutV_from1 (by omega), nV_drop]
          generalize hU1 : upd H5 a1 _ = H6
          obtain ⟨s6, ha1⟩ := new_of0 na1 hU1
          walk_at "go"
          refine ⟨af, ah, m, fs, st m fs bs n, rfl, s6 _ _ (S5 _ _ R.fat), .inr (s6 _ _ hah5), by have := rl.m2; omega, f4, (rl10 rl).1, (rl10 rl).2 _, by rw [st_len rl]; omega, fun H7 s7 => ?_⟩
          walk_at "go"
          intro a2 na2
          generalize hU2 : upd H7 a2 _ = H8
          obtain ⟨s8, ha2⟩ := new_of0 na2 hU2
          have S8 := (s6.trans s7).trans s8
          have ha18 := s8 _ _ (s7 _ _ ha1)
          have e2 := st_tail m fs bs n
          refine ⟨a1, a2, _, _, rfl, rfl, sqT_of ha18, sqT_of ha2, szl (by rw [nV_len, List.length_drop, st_len rl]; simp; omega), fun z => ?_, fun _ z => (nomatch z), fun z _ a3 na3 => ?_⟩
          · refine ⟨a2, rfl, S8 _ _ hD5, S5.trans S8, ?_⟩
            have z2 : (st m fs bs n).drop 1 = [] := List.map_eq_nil_iff.mp z
            rw [e2, z2]
            exact ha2
          · refine ⟨a3, rfl, ?_, (S5.trans S8).trans (same_new na3), ?_⟩
            · exact same_new na3 _ _ (S8 _ _ hD5)
            · rw [upd_same, e2, nV_snoc]
    · obtain ⟨h, hn, eh⟩ : ∃ h, h < n ∧ st m fs bs h = st m fs bs n := Classical.byContradiction fun z => c fun j hj e => z ⟨j, hj, e⟩
      have e1 : valV kvs (keyL (st m fs bs n)) = some (.int (h : Nat)) := by rw [← eh, X.at_ h hn]
      rw [e1]
      refine ⟨false, rfl, ifF ?_⟩
      walk_at "go"
      refine ⟨D, _, rfl, e1 ▸ DGet.t (k := keyL (st m fs bs n)) hD hk, ?_⟩
      walk_at "go"
      refine ⟨D, kvs, rfl, hD, ?_⟩
      walk_at "go"
      refine ⟨D, _, rfl, e1 ▸ DGet.t (k := keyL (st m fs bs n)) hD hk, ?_⟩
      walk_at "go"
      intro p np
      refine q p _ h (n - h) (S1.trans (same_new np)) ⟨by omega, ?_, fun i j hij hj => X.ne i j hij (by omega)⟩ ?_
      · rw [show h + (n - h) = n by omega]
        exact eh.symm
      · rw [upd_same, X.len]
        have : (n : Int) - (h : Int) = ((n - h : Nat) : Int) := by omega
        show some (HO.tup [V.int _, V.int (_ - _)]) = _
        rw [this]
end
set_option pp.deepTerms false
set_option pp.deepTerms.threshold 5
section
variable {P : Program} {wd : World} {K : PySem.W.Frag} {mg : Str → Option Value} {base : Heap} (T : Tp K mg)
theorem same_none {H H' : Hp} {p : Addr} (S : Same H H') (h : H' p = none) : H p = none := by
  cases e : H p with
  | none => rfl
  | some x => rw [S _ _ e] at h; cases h
def spRow : Sp := fun vs H Q _ => ∃ (r af ab : Addr) (m : Nat) (fs bs : List Nat) (n : Nat), vs = [.ref r, .int n] ∧ RuleAt H r af ab m fs bs ∧ n ≤ 40000 ∧
  ∀ p H', Same H H' → H p = none → H' p = some (.lst (nV (rw_ m fs bs n))) → Q (.ref p) H'
theorem ok_row : FnOk P wd K mg base CX0 1 T.a_row T.d_row ["_law_rule_here", "_law_many"] spRow := by
  refine T.F_row.ok sc_row (fun vs H Q E h => ?_) (fun cdv A outer s H vs Q E hr h => ?_)
  · obtain ⟨r, af, ab, m, fs, bs, n, rfl, _⟩ := h
    rfl
  · obtain ⟨r, af, ab, m, fs, bs, n, rfl, R, n4, q⟩ := h
    refine ⟨_, (pss_cons (ps_asg (pv 0) (pg_tup rfl (pgs_cons (pg_name (i := 2) sc_row.nd rfl (Or.inl rfl)) (pgs_cons (pg_name (i := 3) sc_row.nd rfl (Or.inl rfl)) (pgs_cons (pg_name (i := 4) sc_row.nd rfl (Or.inl rfl)) pgs_nil)))))
      (pss_cons (ps_set (i := 5) sc_row.nd rfl (Or.inl rfl) (pe_callTy call_list_of rfl T.n_list (by decide +kernel) (pa_cons (pv 4) pa_nil)))
      (pss_cons (ps_while PassesOwn.never (pt_cmpR op_lt (pe_callB call_len_seq rfl T.n_len PySem.boot_len (pa_cons (pv 5) pa_nil)) (pv 1) (nomark _)) (pss_cons (ps_set (i := 6) sc_row.nd rfl (Or.inl rfl) (pe_revL (pe_slice sl_list (pv 5) (po_some (pe_un un_neg (pe_callB call_len_seq rfl T.n_len PySem.boot_len (pa_cons (pv 3) pa_nil)))) po_none)))
      (pss_one (ps_expr (pe_bm PySem.F.plainAttrs_list PySem.F.slot_list_append PySem.F.type_list_append mt_append (pv 5) (pa_cons (pe_op op_mod (pe_callTy call_int1 rfl T.n_int (by decide +kernel) (pa_cons (pe_callB (cr_sum rfl) rfl T.n_sum (by decide +kernel) (pa_cons (pe_lc (own := [("_law_one", 7), ("_law_other", 8)]) (g := gTup K 2 (gCons (gName 7) (gCons (gName 8) gNil))) rfl sc_row.nd (pi_zipM rfl T.n_zip (pa_cons (pv 3) (pa_cons (pv 6) pa_nil))) (blkOk_by (N := nm_row) (sc := defScope s_row) (by decide +kernel)) (fun _ _ _ _ _ => pg_tup rfl (pgs_cons (pg_name (i := 7) sc_row.nd rfl (Or.inl rfl) (Or.inr rfl)) (pgs_cons (pg_name (i := 8) sc_row.nd rfl (Or.inl rfl) (Or.inr rfl)) pgs_nil))) (fun _ _ _ _ _ => pts_nil) (fun _ _ _ _ _ => (pe_op op_mul (pv 7) (pv 8)))) pa_nil)) pa_nil)) (pv 2)) pa_nil))))))
      (pss_one (ps_ret (pe_slice sl_list (pv 5) po_none (po_some (pv 1)))))))), ?_⟩
    have h1 := R.at_
    have rl := R.rl
    have f1 := rl.f1
    have f4 := rl.f4
    have m2 := rl.m2
    walk_at "go"
    refine ⟨ab, _, rfl, .inr (sqT_of R.bat), fun L nL => ?_⟩
    refine ⟨fun μ σ H2 => ∃ (j : Nat) (y6 : Option V), σ = [some (.ref r), some (.int n), some (.int m), some (.ref af), some (.ref ab), some (.ref L), y6, none, none] ∧ H2 L = some (.lst (nV (rw_ m fs bs j))) ∧ Same H H2 ∧ fs.length ≤ j ∧ (j ≤ n ∨ j = fs.length) ∧ μ = n - j,
      ⟨n - fs.length, fs.length, none, rfl, by rw [upd_same, rw_begin rl], same_new nL, Nat.le_refl _, .inr rfl, rfl⟩, fun μ σ H4 p => ?_⟩
    obtain ⟨j, y6, rfl, hL, S1, hj, hjn, rfl⟩ := p
    have hfa := S1 _ _ R.fat
    walk_at "go"
    refine ifD (fun lt => ?_) (fun nlt => ?_)
    · rw [nV_len, rw_len] at lt
      refine ⟨fun σ' H' => ∃ y6 : Option V, σ' = [some (.ref r), some (.int n), some (.int m), some (.ref af), some (.ref ab), some (.ref L), y6, none, none] ∧ H' L = some (.lst (nV (rw_ m fs bs (j + 1)))) ∧ Same H H', fun σ' H' p => ?_, ?_⟩
      · obtain ⟨y6, rfl, hL', S3⟩ := p
        exact ⟨n - (j + 1), by omega, j + 1, y6, rfl, hL', S3, by omega, by omega, rfl⟩
      · walk_at "go"
        intro D nD
        generalize hU : upd H4 D _ = H5
        obtain ⟨s5, hD⟩ := new_of0 nD hU
        have e1 : cutV (nV (rw_ m fs bs j)) (some (-(((nV fs).length : Nat) : Int))) none = nV (st m fs bs (j - fs.length)) := by
          rw [cutV_last (by rw [nV_len]; omega) (by rw [nV_len, nV_len, rw_len]; omega), nV_drop, nV_len, nV_len, rw_len]
          congr 1
          have := st_row rl (j - fs.length)
          rw [show j - fs.length + fs.length = j by omega] at this
          exact this
        rw [e1] at hD
        generalize hst : st m fs bs (j - fs.length) = as at hD
        refine ⟨D, _, rfl, sqL_of hD, fun B nB => ?_⟩
        generalize hU2 : upd H5 B _ = H6
        obtain ⟨s6, hB⟩ := new_of0 nB hU2
        rw [nV_rev] at hB
        walk_at "go"
        have hL6 := s6 _ _ (s5 _ _ hL)
        have hfa6 := s6 _ _ (s5 _ _ hfa)
        refine ⟨Or.inl ⟨rfl, _, sqL_of hL6⟩, ?_⟩
        walk_at "go"
        refine ⟨af, B, nV fs, nV as.reverse, rfl, sqT_of hfa6, sqL_of hB, fun C nC => ?_⟩
        have la : as.length = fs.length := by rw [← hst]; exact st_len rl _
        refine lc_it (walk_zipM rfl) (fun i H2 => H2 C = some (.lst (nV ((List.zipWith (· * ·) fs as.reverse).take i))) ∧ Same H6 H2) ⟨upd_same, same_new nC⟩
          (fun i H2 _ p => ⟨sqT_of (p.2 _ _ hfa6), sqL_of (p.2 _ _ hB)⟩) (fun i x H2 H3 hi p y => ?_) (fun H2 p => ?_)
        · obtain ⟨hC, S⟩ := p
          obtain ⟨T', x, y, rfl, hT, rfl, hx, hy⟩ := y
          obtain ⟨f, ef, rfl⟩ := nV_get hx
          obtain ⟨a, ea, rfl⟩ := nV_get hy
          have f10 := (rl10 rl).1 f (List.mem_of_getElem? ef)
          have a10 : a < 10 := (rl10 rl).2 (j - fs.length) a (by rw [hst]; exact List.mem_reverse.mp (List.mem_of_getElem? ea))
          generalize hU3 : upd H2 T' _ = H7
          obtain ⟨s7, hT7⟩ := new_of0 hT hU3
          have hC7 := s7 _ _ hC
          have S7 := S.trans s7
          walk_at "go"
          have i4 : i < 4 := by rw [nV_len] at hi; omega
          refine ⟨_, hC7, small1000 (by rw [nV_len, List.length_take]; omega), ?_, same_mut S7 nC⟩
          rw [upd_same, zw_succ ef ea, nV_snoc, Int.natCast_mul]
        · obtain ⟨hC, S⟩ := p
          rw [List.take_of_length_le (by rw [List.length_zipWith, nV_len, nV_len]; exact Nat.le_refl _)] at hC
          refine ⟨C, (List.zipWith (· * ·) fs as.reverse).map fun k => ((k : Nat) : Int), rfl, sqL_of (by rw [hC, nV_ints]), ?_⟩
          rw [sum_nat]
          walk_at "go"
          have hL7 := S _ _ hL6
          have e2 : (List.zipWith (· * ·) fs as.reverse).sum % m = xv m fs bs j := by
            have := x_next rl (j - fs.length)
            rw [show j - fs.length + fs.length = j by omega, hst] at this
            exact this.symm
          refine ⟨L, _, _, rfl, rfl, hL7, Nat.lt_of_le_of_lt (by rw [nV_len, rw_len]; omega : _ ≤ 40000) (by decide), ?_⟩
          refine ⟨_, rfl, ?_, ?_⟩
          · rw [upd_same, rw_succ, nV_snoc, ← e2, Int.natCast_emod]
          · exact same_mut (((S1.trans s5).trans s6).trans S) nL
    · rw [nV_len, rw_len] at nlt
      walk_at "go"
      intro D nD
      generalize hU : upd H4 D _ = H5
      obtain ⟨s5, hD⟩ := new_of0 nD hU
      rw [cutV_to, nV_take, rw_take, Nat.min_eq_left (by omega)] at hD
      exact q D H5 (S1.trans s5) (same_none S1 nD) hD
end
set_option pp.deepTerms false
set_option pp.deepTerms.threshold 5
section
variable {P : Program} {wd : World} {K : PySem.W.Frag} {mg : Str → Option Value} {base : Heap} (T : Tp K mg)
def spShort : Sp := fun vs H Q _ => ∃ (t : List Bool) (s : Nat), vs = [.str (B t)] ∧ 0 < t.length ∧ t.length ≤ 5000 ∧ IsPer t s ∧ Q (.str (B (t.take s))) H
theorem ok_short : FnOk P wd K mg base CX0 1 T.a_shortest T.d_shortest ["turn"] spShort := by
  refine T.F_shortest.ok sc_shortest (fun vs H Q E h => ?_) (fun cdv A outer s H vs Q E hr h => ?_)
  · obtain ⟨t, s, rfl, _⟩ := h
    rfl
  · obtain ⟨t, s0, rfl, t0, t1, per, q⟩ := h
    refine ⟨_, (pss_cons (ps_set (i := 1) sc_shortest.nd rfl (Or.inl rfl) (pe_callB call_len_str rfl T.n_len PySem.boot_len (pa_cons (pv 0) pa_nil)))
      (pss_cons (ps_for PassesOwn.never rfl (pi_range2 rfl T.n_range (pa_cons pe_int (pa_cons (pe_op op_add (pe_op op_fdiv (pv 1) pe_int) pe_int) pa_nil))) (pg_name (i := 2) sc_shortest.nd rfl (Or.inl rfl)) (pss_one (ps_if (PW.pt (pw_and (pt_cmpR op_eq (pe_op op_mod (pv 1) (pv 2)) pe_int (nomark _)) (pw_and1 (pt_cmpR op_eq (pe_op op_mulS (pe_slice sl_str (pv 0) po_none (po_some (pv 2))) (pe_op op_fdiv (pv 1) (pv 2))) (pv 0) (nomark _))))) (pss_one (ps_ret (pe_slice sl_str (pv 0) po_none (po_some (pv 2))))) pss_nil)))
      (pss_one (ps_ret (pv 0))))), ?_⟩
    have fact : ∀ k, 1 ≤ k → k ≤ t.length → t.length % k = 0 → rep (t.length / k) (t.take k) = t → s0 ≤ k := fun k k1 k2 k3 k4 => by
      refine Nat.le_of_not_lt fun c => per.least k k1 c ((rep_iff k1 k2 k3).mp k4)
    walk_at "go"
    refine for_range (lo := 1) (n := ((t.length : Int) / 2 + 1 - 1).toNat) (fun i σ H2 => ∃ y2, σ = [some (.str (B t)), some (.int t.length), y2] ∧ H2 = H ∧ ∀ k, 1 ≤ k → k < 1 + i → ¬ (t.length % k = 0 ∧ rep (t.length / k) (t.take k) = t))
      ⟨none, rfl, rfl, fun k a b => by omega⟩ (fun i σ H2 hi p => ?_) (fun σ H2 p => ?_)
    · obtain ⟨y2, rfl, rfl, no⟩ := p
      have i1 : 1 + i ≤ t.length := by omega
      have m1 : (t.take (1 + (i : Int)).toNat).length * ((t.length : Int) / (1 + (i : Int))).toNat ≤ 1000000 := by
        refine mul_le (n := 1 + i) (m := t.length / (1 + i)) (by rw [List.length_take]; omega) ?_ ?_
        · rw [show (1 + (i : Int)) = ((1 + i : Nat) : Int) by omega, ← Int.natCast_ediv, Int.toNat_natCast]
          exact Nat.le_refl _
        · exact Nat.le_trans (Nat.mul_div_le _ _) (by omega)
      walk_at "go"
      have e1 : (1 + (i : Int)).toNat = 1 + i := by omega
      have e2 : ((t.length : Int) / (1 + (i : Int))).toNat = t.length / (1 + i) := by
        rw [show (1 + (i : Int)) = ((1 + i : Nat) : Int) by omega, ← Int.natCast_ediv, Int.toNat_natCast]
      have e3 : (t.length : Int) % (1 + (i : Int)) = ((t.length % (1 + i) : Nat) : Int) := by
        rw [show (1 + (i : Int)) = ((1 + i : Nat) : Int) by omega, ← Int.natCast_emod]
      have e4 : 0 ≤ (t.length : Int) / (1 + (i : Int)) ∧ (t.length : Int) / (1 + (i : Int)) < 2 ^ 30 := by
        rw [show (1 + (i : Int)) = ((1 + i : Nat) : Int) by omega, ← Int.natCast_ediv]
        have := Nat.div_le_self t.length (1 + i)
        omega
      have next : ¬ (t.length % (1 + i) = 0 ∧ rep (t.length / (1 + i)) (t.take (1 + i)) = t) → ∀ k, 1 ≤ k → k < 1 + (i + 1) → ¬ (t.length % k = 0 ∧ rep (t.length / k) (t.take k) = t) := fun c k k1 k2 z => by
        by_cases ek : k = 1 + i
        · subst ek
          exact c z
        · exact no k k1 (by omega) z
      refine ifD (fun ed => ?_) (fun nd => ?_)
      · have ed2 : t.length % (1 + i) = 0 := by
          have ed1 : (t.length : Int) % (1 + (i : Int)) = 0 := V.int.inj ed
          rw [e3] at ed1
          omega
        walk_at "go"
        rw [B_dec, e1, e2]
        refine ifD (fun er => ?_) (fun nr => ?_)
        · walk_at "go"
          have es : s0 = 1 + i := by
            have h1 := fact (1 + i) (by omega) i1 ed2 er
            by_cases h2 : s0 < 1 + i
            · exact absurd ⟨per.dvd, (rep_iff per.pos per.le per.dvd).mpr per.rot⟩ (no s0 per.pos h2)
            · omega
          rw [e1, ← es]
          exact q
        · exact ⟨_, rfl, rfl, next fun z => nr z.2⟩
      · exact ⟨_, rfl, rfl, next fun z => nd (congrArg V.int (show (t.length : Int) % (1 + (i : Int)) = 0 by rw [e3, z.1]; rfl))⟩
    · obtain ⟨y2, rfl, rfl, no⟩ := p
      walk_at "go"
      have es : s0 = t.length := by
        have hle := per.le
        have hd := per.dvd
        have h1 : ¬ s0 < 1 + ((t.length : Int) / 2 + 1 - 1).toNat := fun c => no s0 per.pos c ⟨hd, (rep_iff per.pos hle hd).mpr per.rot⟩
        have h2 : t.length < 2 * s0 := by omega
        have h3 := Nat.mod_eq_sub_mod hle
        rw [Nat.mod_eq_of_lt (show t.length - s0 < s0 by omega)] at h3
        omega
      rw [es, List.take_length] at q
      exact q
def spAlike : Sp := fun vs H Q _ => ∃ (h u : List Bool), vs = [.str (B h), .str (B u)] ∧ h.length ≤ 5000 ∧ 0 < u.length ∧ u.length ≤ 5000 ∧ ∀ a : Nat, Alike h u a → Q (.int a) H
theorem ok_alike : FnOk P wd K mg base CX0 1 T.a_alike T.d_alike ["head", "turn"] spAlike := by
  refine T.F_alike.ok sc_alike (fun vs H Q E h => ?_) (fun cdv A outer s H vs Q E hr h => ?_)
  · obtain ⟨h, u, rfl, _⟩ := h
    rfl
  · obtain ⟨h, u, rfl, h1, u0, u1, q⟩ := h
    refine ⟨_, (pss_cons (ps_set (i := 2) sc_alike.nd rfl (Or.inl rfl) pe_int)
      (pss_cons (ps_while PassesOwn.never (PW.pt (pw_and (pt_cmpR op_lt (pv 2) (pe_callB call_len_str rfl T.n_len PySem.boot_len (pa_cons (pv 0) pa_nil)) (nomark _)) (pw_and1 (pt_cmpR op_eq (pe_ix ix_str (pv 0) (pe_op op_sub (pe_un un_neg pe_int) (pv 2)) (fun _ _ => rfl)) (pe_ix ix_str (pv 1) (pe_op op_sub (pe_un un_neg pe_int) (pe_op op_mod (pv 2) (pe_callB call_len_str rfl T.n_len PySem.boot_len (pa_cons (pv 1) pa_nil)))) (fun _ _ => rfl)) (nomark _))))) (pss_one (ps_aug (i := 2) sc_alike.nd rfl (Or.inl rfl) pe_int ip_add)))
      (pss_one (ps_ret (pv 2))))), ?_⟩
    walk_at "go"
    refine ⟨fun m σ H2 => ∃ a : Nat, σ = [some (.str (B h)), some (.str (B u)), some (.int a)] ∧ H2 = H ∧ a ≤ h.length ∧ m = h.length - a ∧ ∀ j, j < a → h.getD (h.length - 1 - j) false = u.getD (u.length - 1 - j % u.length) false,
      ⟨h.length, 0, rfl, rfl, Nat.zero_le _, rfl, fun j hj => by omega⟩, fun m σ H2 p => ?_⟩
    obtain ⟨a, rfl, rfl, ha, rfl, sm⟩ := p
    walk_at "go"
    refine ifD (fun lt => ?_) (fun nlt => ?_)
    · have lt2 : a < h.length := by omega
      have hm := Nat.mod_lt a u0
      walk_at "go"
      refine go_ixSn (k := a) rfl (by omega) lt2 (getD_some (by omega)) ?_
      rw [B_one]
      walk_at "go"
      refine go_ixSn (k := a % u.length) (by simp) (by omega) hm (getD_some (by omega)) ?_
      rw [B_one]
      walk_at "go"
      rw [B_dec]
      refine ifD (fun eq => ?_) (fun ne => ?_)
      · refine ⟨fun σ' H' => σ' = [some (.str (B h)), some (.str (B u)), some (.int ((a + 1 : Nat) : Int))] ∧ H' = H2, fun σ' H' p => ?_, ?_⟩
        · obtain ⟨rfl, rfl⟩ := p
          refine ⟨h.length - (a + 1), by omega, a + 1, rfl, rfl, by omega, rfl, fun j hj => ?_⟩
          by_cases e : j = a
          · subst e
            exact (List.cons.inj eq).1
          · exact sm j (by omega)
        · walk_at "go"
          exact rfl
      · walk_at "go"
        exact q a ⟨ha, sm, .inr fun z => ne (by rw [z])⟩
    · walk_at "go"
      exact q a ⟨ha, sm, .inl (by omega)⟩
/-- the table of a head and a turn -/
def Tab (H : Hp) (p : Addr) (h t : List Bool) : Prop := H p = some (.tup [.str (B h), .str (B t)]) ∧ h.length ≤ 5000 ∧ 0 < t.length ∧ t.length ≤ 5000
theorem Tab.same {H H' : Hp} {p : Addr} {h t : List Bool} (x : Tab H p h t) (s : Same H H') : Tab H' p h t := ⟨s _ _ x.1, x.2⟩
def spLeast : Sp := fun vs H Q _ => ∃ (p : Addr) (h t : List Bool) (s m : Nat), vs = [.ref p] ∧ Tab H p h t ∧ IsPer t s ∧ IsBeg h t s m ∧
  ∀ p' H', Same H H' → Tab H' p' (rng (sg h t) 0 m) (rng (sg h t) m s) → Q (.ref p') H'
theorem ok_least : FnOk P wd K mg base CX0 2 T.a_least T.d_least ["table"] spLeast := by
  have G_shortest : FnOk P wd K mg base CX0 1 T.a_shortest T.d_shortest ["turn"] spShort := ok_short T
  have G_alike : FnOk P wd K mg base CX0 1 T.a_alike T.d_alike ["head", "turn"] spAlike := ok_alike T
  refine T.F_least.ok sc_least (fun vs H Q E h => ?_) (fun cdv A outer s H vs Q E hr h => ?_)
  · obtain ⟨p, h, t, s, m, rfl, _⟩ := h
    rfl
  · obtain ⟨p, h, t, s, m, rfl, ⟨hp, h1, t0, t1⟩, per, beg, q⟩ := h
    refine ⟨_, (pss_cons (ps_asg (pv 0) (pg_tup rfl (pgs_cons (pg_name (i := 1) sc_least.nd rfl (Or.inl rfl)) (pgs_cons (pg_name (i := 2) sc_least.nd rfl (Or.inl rfl)) pgs_nil))))
      (pss_cons (ps_set (i := 2) sc_least.nd rfl (Or.inl rfl) (pe_call G_shortest hr rfl T.g_shortest T.F_shortest.kp (b_shortest T) .nil pass0 (pa_cons (pv 2) pa_nil)))
      (pss_cons (ps_set (i := 3) sc_least.nd rfl (Or.inl rfl) (pe_call G_alike hr rfl T.g_alike T.F_alike.kp (b_alike T) .nil pass0 (pa_cons (pv 1) (pa_cons (pv 2) pa_nil))))
      (pss_cons (ps_set (i := 4) sc_least.nd rfl (Or.inl rfl) (pe_op op_sub (pe_callB call_len_str rfl T.n_len PySem.boot_len (pa_cons (pv 2) pa_nil)) (pe_op op_mod (pv 3) (pe_callB call_len_str rfl T.n_len PySem.boot_len (pa_cons (pv 2) pa_nil)))))
      (pss_one (ps_ret (pe_tup (pa_cons (pe_slice sl_str (pv 1) po_none (po_some (pe_op op_sub (pe_callB call_len_str rfl T.n_len PySem.boot_len (pa_cons (pv 1) pa_nil)) (pv 3)))) (pa_cons (pe_op op_add_str (pe_slice sl_str (pv 2) (po_some (pv 4)) po_none) (pe_slice sl_str (pv 2) po_none (po_some (pv 4)))) pa_nil))))))))), ?_⟩
    have hu := take_len per
    have spos := per.pos
    have sle := per.le
    walk_at "go"
    refine ⟨t, s, rfl, t0, t1, per, ?_⟩
    walk_at "go"
    intro a x
    have ha := x.le
    have hm := Nat.mod_lt a spos
    have em : ((a : Int) % ((s : Nat) : Int)) = ((a % s : Nat) : Int) := (Int.natCast_emod _ _).symm
    rw [← hu] at em
    have hm2 : a % (t.take s).length < (t.take s).length := by rw [hu]; exact hm
    have c0 : 0 ≤ ((t.take s).length : Int) - (a : Int) % ((t.take s).length : Int) := by
      rw [em]
      omega
    have ec : (((t.take s).length : Int) - (a : Int) % ((t.take s).length : Int)).toNat = s - a % s := by
      rw [em, hu]
      omega
    have eh : ((h.length : Int) - (a : Int)).toNat = h.length - a := by omega
    walk_at "go"
    rw [ec, eh]
    intro p' np
    have eb : m = h.length - a := beg.uniq (beg_of per x)
    refine q p' _ (same_new np) ⟨?_, ?_, ?_, ?_⟩
    · rw [upd_same, win_of per x, head_of ha, eb]
    · rw [rng_len]; omega
    · rw [rng_len]; omega
    · rw [rng_len]; omega
def spLeastS : Sp := fun vs H Q _ => ∃ (h t : List Bool) (s m : Nat), vs = [.str (B h), .str (B t)] ∧ h.length ≤ 5000 ∧ 0 < t.length ∧ t.length ≤ 5000 ∧ IsPer t s ∧ IsBeg h t s m ∧
  ∀ p' H', Same H H' → Tab H' p' (rng (sg h t) 0 m) (rng (sg h t) m s) → Q (.ref p') H'
def spTableOf : Sp := fun vs H Q _ => ∃ (h t : List Bool) (s m : Nat), vs = [.str (B (h ++ t)), .int (h.length : Nat)] ∧ h.length ≤ 5000 ∧ 0 < t.length ∧ t.length ≤ 5000 ∧ IsPer t s ∧ IsBeg h t s m ∧
  ∀ p' H', Same H H' → Tab H' p' (rng (sg h t) 0 m) (rng (sg h t) m s) → Q (.ref p') H'
theorem ok_table_of : FnOk P wd K mg base CX0 3 T.a_table_of T.d_table_of ["row", "head"] spTableOf := by
  have G_least : FnOk P wd K mg base CX0 2 T.a_least T.d_least ["table"] spLeast := ok_least T
  refine T.F_table_of.ok sc_table_of (fun vs H Q E h => ?_) (fun cdv A outer s H vs Q E hr h => ?_)
  · obtain ⟨h, t, s, m, rfl, _⟩ := h
    rfl
  · obtain ⟨h, t, s, m, rfl, h1, t0, t1, per, beg, q⟩ := h
    refine ⟨_, (pss_one (ps_ret (pe_call G_least hr rfl T.g_least T.F_least.kp (b_least T) .nil pass0 (pa_cons (pe_tup (pa_cons (pe_slice sl_str (pv 0) po_none (po_some (pv 1))) (pa_cons (pe_slice sl_str (pv 0) (po_some (pv 1)) po_none) pa_nil))) pa_nil)))), ?_⟩
    walk_at "go"
    rw [show ((h.length : Nat) : Int).toNat = h.length from rfl, List.take_left, List.drop_left]
    intro p np
    generalize hU : upd H p _ = H1
    obtain ⟨s1, hp⟩ := new_of0 np hU
    walk_at "go"
    refine ⟨p, h, t, s, m, rfl, ⟨hp, h1, t0, t1⟩, per, beg, fun p' H' s2 tb => ?_⟩
    exact q p' H' (s1.trans s2) tb
theorem rng_snoc (f : Nat → Bool) (a n : Nat) : rng f a (n + 1) = rng f a n ++ [f (a + n)] := by
  unfold rng
  rw [List.range_succ, List.map_append]
  rfl
theorem rng_cons (f : Nat → Bool) (a n : Nat) : rng f a (n + 1) = f a :: rng f (a + 1) n := by
  unfold rng
  rw [List.range_succ_eq_map, List.map_cons, List.map_map]
  congr 1
  apply List.map_congr_left
  intro i _
  show f (a + (i + 1)) = f (a + 1 + i)
  congr 1
  omega
theorem ok_lleast : FnOk P wd K mg base CX0 1 T.a_lleast T.d_lleast ["_law_head", "_law_turn"] spLeastS := by
  refine T.F_lleast.ok sc_lleast (fun vs H Q E h => ?_) (fun cdv A outer s H vs Q E hr h => ?_)
  · obtain ⟨h, t, s, m, rfl, _⟩ := h
    rfl
  · obtain ⟨h, t, s0, m, rfl, h1, t0, t1, per, beg, q⟩ := h
    refine ⟨_, (pss_cons (ps_set (i := 2) sc_lleast.nd rfl (Or.inl rfl) (pe_callB call_len_str rfl T.n_len PySem.boot_len (pa_cons (pv 1) pa_nil)))
      (pss_cons (ps_for PassesOwn.never rfl (pi_range2 rfl T.n_range (pa_cons pe_int (pa_cons (pe_op op_add (pv 2) pe_int) pa_nil))) (pg_name (i := 3) sc_lleast.nd rfl (Or.inl rfl)) (pss_one (ps_if (PW.pt (pw_and (pt_cmpR op_eq (pe_op op_mod (pe_callTy call_int1 rfl T.n_int (by decide +kernel) (pa_cons (pv 2) pa_nil)) (pv 3)) pe_int (nomark _)) (pw_and1 (pt_cmpR op_eq (pe_op op_mulS (pe_slice sl_str (pv 1) po_none (po_some (pv 3))) (pe_op op_fdiv (pv 2) (pv 3))) (pv 1) (nomark _))))) (pss_cons (ps_set (i := 1) sc_lleast.nd rfl (Or.inl rfl) (pe_slice sl_str (pv 1) po_none (po_some (pv 3))))
      (pss_one ps_break)) pss_nil)))
      (pss_cons (ps_while PassesOwn.never (PW.pt (pw_and (pt_cmpR op_ne (pv 0) pe_str (nomark _)) (pw_and1 (pt_cmpR op_eq (pe_ix ix_str (pv 0) (pe_un un_neg pe_int) (fun _ _ => rfl)) (pe_ix ix_str (pv 1) (pe_un un_neg pe_int) (fun _ _ => rfl)) (nomark _))))) (pss_one (ps_par (i := 0) (j := 1) rfl sc_lleast.nd rfl rfl (by decide) rfl rfl (pa_cons (pe_slice sl_str (pv 0) po_none (po_some (pe_un un_neg pe_int))) (pa_cons (pe_op op_add_str (pe_ix ix_str (pv 1) (pe_un un_neg pe_int) (fun _ _ => rfl)) (pe_slice sl_str (pv 1) po_none (po_some (pe_un un_neg pe_int)))) pa_nil)) rfl)))
      (pss_one (ps_ret (pe_tup (pa_cons (pv 0) (pa_cons (pv 1) pa_nil)))))))), ?_⟩
    have fact : ∀ k, 1 ≤ k → k ≤ t.length → t.length % k = 0 → rep (t.length / k) (t.take k) = t → s0 ≤ k := fun k k1 k2 k3 k4 => by
      refine Nat.le_of_not_lt fun c => per.least k k1 c ((rep_iff k1 k2 k3).mp k4)
    have spos := per.pos
    have sle := per.le
    walk_at "go"
    refine for_range (lo := 1) (n := ((t.length : Int) + 1 - 1).toNat) (fun i σ H2 => ∃ y3, σ = [some (.str (B h)), some (.str (B t)), some (.int t.length), y3] ∧ H2 = H ∧ 1 + i ≤ s0)
      ⟨none, rfl, rfl, by omega⟩ (fun i σ H2 hi p => ?_) (fun σ H2 p => ?_)
    · obtain ⟨y3, rfl, rfl, no⟩ := p
      have i1 : 1 + i ≤ t.length := by omega
      have m1 : (t.take (1 + (i : Int)).toNat).length * ((t.length : Int) / (1 + (i : Int))).toNat ≤ 1000000 := by
        refine mul_le (n := 1 + i) (m := t.length / (1 + i)) (by rw [List.length_take]; omega) ?_ ?_
        · rw [show (1 + (i : Int)) = ((1 + i : Nat) : Int) by omega, ← Int.natCast_ediv, Int.toNat_natCast]
          exact Nat.le_refl _
        · exact Nat.le_trans (Nat.mul_div_le _ _) (by omega)
      walk_at "go"
      have e1 : (1 + (i : Int)).toNat = 1 + i := by omega
      have e2 : ((t.length : Int) / (1 + (i : Int))).toNat = t.length / (1 + i) := by
        rw [show (1 + (i : Int)) = ((1 + i : Nat) : Int) by omega, ← Int.natCast_ediv, Int.toNat_natCast]
      have e3 : (t.length : Int) % (1 + (i : Int)) = ((t.length % (1 + i) : Nat) : Int) := by
        rw [show (1 + (i : Int)) = ((1 + i : Nat) : Int) by omega, ← Int.natCast_emod]
      have e4 : 0 ≤ (t.length : Int) / (1 + (i : Int)) ∧ (t.length : Int) / (1 + (i : Int)) < 2 ^ 30 := by
        rw [show (1 + (i : Int)) = ((1 + i : Nat) : Int) by omega, ← Int.natCast_ediv]
        have := Nat.div_le_self t.length (1 + i)
        omega
      have next : ¬ (t.length % (1 + i) = 0 ∧ rep (t.length / (1 + i)) (t.take (1 + i)) = t) → 1 + (i + 1) ≤ s0 := fun c => by
        by_cases ek : s0 = 1 + i
        · exact absurd ⟨by rw [← ek]; exact per.dvd, by rw [← ek]; exact (rep_iff per.pos per.le per.dvd).mpr per.rot⟩ c
        · omega
      refine ifD (fun ed => ?_) (fun nd => ?_)
      · have ed2 : t.length % (1 + i) = 0 := by
          have ed1 : (t.length : Int) % (1 + (i : Int)) = 0 := V.int.inj ed
          rw [e3] at ed1
          omega
        walk_at "go"
        rw [B_dec, e1, e2]
        refine ifD (fun er => ?_) (fun nr => ?_)
        · have es : s0 = 1 + i := by
            have h1 := fact (1 + i) (by omega) i1 ed2 er
            omega
          walk_at "go"
          rw [e1, ← es]
          walk_at "go"
          have hd : rng (sg h t) 0 h.length = h := Prim.head
          have td : rng (sg h t) h.length s0 = t.take s0 := (ext_rng (a := h.length) (by rw [List.length_take]; omega) fun k hk => by
            rw [List.getElem?_take, if_pos hk, sg_turn (by omega), show h.length + k - h.length = k by omega, Nat.mod_eq_of_lt (by omega), getD_some (by omega)]).symm
          refine ⟨fun μ σ H3 => ∃ (M : Nat) (y3 : Option V), σ = [some (.str (B (rng (sg h t) 0 M))), some (.str (B (rng (sg h t) M s0))), some (.int t.length), y3] ∧ H3 = H2 ∧ M ≤ h.length ∧ (∀ n, M ≤ n → n < h.length → sg h t n = sg h t (n + s0)) ∧ μ = M,
            ⟨h.length, h.length, _, by rw [hd, td]; rfl, rfl, Nat.le_refl _, fun n a b => by omega, rfl⟩, fun μ σ H3 p => ?_⟩
          obtain ⟨M, y3, rfl, rfl, hM, sm, rfl⟩ := p
          walk_at "go"
          rw [B_nil, B_dec]
          refine ifDn (fun ne => ?_) (fun em => ?_)
          · have M0 : 0 < μ := by
              rcases Nat.eq_zero_or_pos μ with z | z
              · subst z
                exact absurd rfl ne
              · exact z
            walk_at "go"
            refine go_ixSn (k := 0) (b := sg h t (μ - 1)) rfl (by rw [rng_len]; omega) (by rw [rng_len]; omega) (by rw [rng_len, rng_get _ _ _ _ (by omega)]; congr 2; omega) ?_
            rw [B_one]
            walk_at "go"
            refine go_ixSn (k := 0) (b := sg h t (μ - 1 + s0)) rfl (by rw [rng_len]; omega) (by rw [rng_len]; omega) (by rw [rng_len, rng_get _ _ _ _ (by omega)]; congr 2; omega) ?_
            rw [B_one]
            walk_at "go"
            rw [B_dec]
            refine ifD (fun eq => ?_) (fun ne2 => ?_)
            · have eq2 := (List.cons.inj eq).1
              have e1 : (rng (sg h t) 0 μ).take ((rng (sg h t) 0 μ).length - 1) = rng (sg h t) 0 (μ - 1) := by
                obtain ⟨k, rfl⟩ : ∃ k, μ = k + 1 := ⟨μ - 1, by omega⟩
                rw [rng_len, rng_snoc, Nat.add_sub_cancel, List.take_left' (by rw [rng_len])]
              have e2 : sg h t (μ - 1 + s0) :: (rng (sg h t) μ s0).take ((rng (sg h t) μ s0).length - 1) = rng (sg h t) (μ - 1) s0 := by
                obtain ⟨k, ek⟩ : ∃ k, s0 = k + 1 := ⟨s0 - 1, by omega⟩
                rw [rng_len, ek, rng_snoc, Nat.add_sub_cancel, List.take_left' (by rw [rng_len]), rng_cons, show μ - 1 + 1 = μ by omega, ← ek, ← eq2]
              refine ⟨fun σ' H' => σ' = [some (.str (B (rng (sg h t) 0 (μ - 1)))), some (.str (B (rng (sg h t) (μ - 1) s0))), some (.int t.length), y3] ∧ H' = H3, fun σ' H' p => ?_, ?_⟩
              · obtain ⟨rfl, rfl⟩ := p
                refine ⟨μ - 1, by omega, μ - 1, y3, rfl, rfl, by omega, fun n a b => ?_, rfl⟩
                by_cases c : n = μ - 1
                · subst c
                  exact eq2
                · exact sm n (by omega) b
              · have l1 : (rng (sg h t) 0 μ).length ≤ 1000000 := by rw [rng_len]; omega
                have l2 : (rng (sg h t) μ s0).length ≤ 1000000 := by rw [rng_len]; omega
                have l3 : [sg h t (μ - 1 + s0)].length + ((rng (sg h t) μ s0).take ((rng (sg h t) μ s0).length - 1)).length ≤ 1000000 := by
                  rw [List.length_take, rng_len]; simp; omega
                walk_at "go"
                refine go_ixSn (k := 0) (b := sg h t (μ - 1 + s0)) rfl (by rw [rng_len]; omega) (by rw [rng_len]; omega) (by rw [rng_len, rng_get _ _ _ _ (by omega)]; congr 2; omega) ?_
                rw [B_one]
                walk_at "go"

                rw [e1, show [sg h t (μ - 1 + s0)] ++ (rng (sg h t) μ s0).take ((rng (sg h t) μ s0).length - 1) = rng (sg h t) (μ - 1) s0 from e2]
                exact ⟨rfl, rfl⟩
            · walk_at "go"
              intro p np
              have em : m = μ := beg.uniq ⟨hM, sm, .inr fun z => ne2 (by rw [z])⟩
              refine q p _ (same_new np) ⟨?_, ?_, ?_, ?_⟩
              · rw [upd_same, em]
              · rw [rng_len]; omega
              · rw [rng_len]; omega
              · rw [rng_len]; omega
          · refine ifF ?_
            have M0 : μ = 0 := by
              have := congrArg List.length em
              rw [rng_len] at this
              exact this
            subst M0
            walk_at "go"
            intro p np
            have em : m = 0 := beg.uniq ⟨hM, sm, .inl rfl⟩
            refine q p _ (same_new np) ⟨?_, ?_, ?_, ?_⟩
            · rw [upd_same, em]
            · rw [rng_len]; omega
            · rw [rng_len]; omega
            · rw [rng_len]; omega
        · exact ⟨_, rfl, rfl, next fun z => nr z.2⟩
      · exact ⟨_, rfl, rfl, next fun z => nd (congrArg V.int (show (t.length : Int) % (1 + (i : Int)) = 0 by rw [e3, z.1]; rfl))⟩
    · obtain ⟨y3, rfl, rfl, no⟩ := p
      omega
end
set_option pp.deepTerms false
set_option pp.deepTerms.threshold 5
section
variable {P : Program} {wd : World} {K : PySem.W.Frag} {mg : Str → Option Value} {base : Heap} (T : Tp K mg)
/-- where a number stands -/
def mk (l : List Nat) (v : Nat) : List Bool := l.map fun x => decide (x = v)
theorem mk_len (l : List Nat) (v : Nat) : (mk l v).length = l.length := List.length_map ..
theorem mk_take {l : List Nat} {v x i : Nat} (h : l[i]? = some x) : mk (l.take (i + 1)) v = mk (l.take i) v ++ [decide (x = v)] := by
  rw [List.take_add_one, h]
  unfold mk
  rw [List.map_append]
  rfl
abbrev bV (l : List Bool) : List V := l.map fun b => V.str (B [b])
theorem bV_snoc (l : List Bool) (b : Bool) : bV (l ++ [b]) = bV l ++ [.str (B [b])] := List.map_append
theorem vi_decN (i j : Nat) : decide (V.int (i : Nat) = V.int (j : Nat)) = decide (i = j) := decide_eq_decide.mpr ⟨fun z => by have := V.int.inj z; omega, fun z => by rw [z]⟩
def LeastOf (H : Hp) (p : Addr) (l : List Bool) (n : Nat) : Prop := ∃ s mm, IsPer (l.drop n) s ∧ IsBeg (l.take n) (l.drop n) s mm ∧ Tab H p (rng (sg (l.take n) (l.drop n)) 0 mm) (rng (sg (l.take n) (l.drop n)) mm s)
theorem LeastOf.same {H H' : Hp} {p : Addr} {l : List Bool} {n : Nat} (x : LeastOf H p l n) (S : Same H H') : LeastOf H' p l n := by
  obtain ⟨s, mm, a, b, c⟩ := x
  exact ⟨s, mm, a, b, c.same S⟩
def spReads : Sp := fun vs H Q _ => ∃ (r af ab : Addr) (m : Nat) (fs bs : List Nat) (v : Nat), vs = [.ref r, .int v] ∧ RuleAt H r af ab m fs bs ∧
  ∀ p H' (h t : Nat), Same H H' → IsRound m fs bs h t → LeastOf H' p (mk (rw_ m fs bs (h + t)) v) h → Q (.ref p) H'
theorem ok_reads : FnOk P wd K mg base CX0 4 T.a_reads T.d_reads ["rule", "value"] spReads := by
  have G_round_of : FnOk P wd K mg base CX0 2 T.a_round_of T.d_round_of ["rule"] spRound := ok_round_of T
  have G_values : FnOk P wd K mg base CX0 2 T.a_values T.d_values ["rule", "many"] spValues := ok_values T
  have G_table_of : FnOk P wd K mg base CX0 3 T.a_table_of T.d_table_of ["row", "head"] spTableOf := ok_table_of T
  refine T.F_reads.ok sc_reads (fun vs H Q E h => ?_) (fun cdv A outer s H vs Q E hr h => ?_)
  · obtain ⟨r, af, ab, m, fs, bs, v, rfl, _⟩ := h
    rfl
  · obtain ⟨r, af, ab, m, fs, bs, v, rfl, R, q⟩ := h
    refine ⟨_, (pss_cons (ps_asg (pe_call G_round_of (hr.mono (by decide)) rfl T.g_round_of T.F_round_of.kp (b_round_of T) .nil pass0 (pa_cons (pv 0) pa_nil)) (pg_tup rfl (pgs_cons (pg_name (i := 2) sc_reads.nd rfl (Or.inl rfl)) (pgs_cons (pg_name (i := 3) sc_reads.nd rfl (Or.inl rfl)) pgs_nil))))
      (pss_cons (ps_set (i := 4) sc_reads.nd rfl (Or.inl rfl) (pe_call G_values (hr.mono (by decide)) rfl T.g_values T.F_values.kp (b_values T) .nil pass0 (pa_cons (pv 0) (pa_cons (pe_op op_add (pv 2) (pv 3)) pa_nil))))
      (pss_one (ps_ret (pe_call G_table_of hr rfl T.g_table_of T.F_table_of.kp (b_table_of T) .nil pass0 (pa_cons (pe_bm PySem.F.plainAttrs_str PySem.F.slot_str_join PySem.F.type_str_join mt_join pe_str (pa_cons (pe_lc (own := [("found", 5)]) rfl sc_reads.nd (pi_tup (pv 4)) (blkOk_by (N := nm_reads) (sc := defScope s_reads) (by decide +kernel)) (fun _ _ _ _ _ => pg_name (i := 5) sc_reads.nd rfl (Or.inl rfl)) (fun _ _ _ _ _ => pts_nil) (fun _ _ _ _ _ => (pe_ifExp (pt_cmpR op_eq (pv 5) (pv 1) (nomark _)) pe_str pe_str))) pa_nil)) (pa_cons (pv 2) pa_nil))))))), ?_⟩
    have rl := R.rl
    walk_at "go"
    refine ⟨r, af, ab, m, fs, bs, rfl, R, fun p H1 h t s1 rd hp => ?_⟩
    have big := rl.big
    have le := rd.le rl
    have t1 := rd.t1
    have R1 := R.same s1
    walk_at "go"
    refine ⟨r, af, ab, m, fs, bs, h + t, rfl, R1, by omega, fun p2 H2 s2 hp2 => ?_⟩
    walk_at "go"
    refine ⟨⟨_, sqT_of hp2⟩, fun D nD => ?_⟩
    refine lc_it walk_tup (fun i H3 => H3 D = some (.lst (bV (mk ((rw_ m fs bs (h + t)).take i) v))) ∧ Same H2 H3) ⟨upd_same, same_new nD⟩ (fun i H3 _ p => sqT_of (p.2 _ _ hp2)) (fun i x H3 H4 hi p y => ?_) (fun H3 p => ?_)
    · obtain ⟨hD, S⟩ := p
      obtain ⟨rfl, hx⟩ := y
      obtain ⟨k, ek, rfl⟩ := nV_get hx
      rw [nV_len, rw_len] at hi
      walk_at "go"
      rw [vi_decN]
      have sz : (bV (mk ((rw_ m fs bs (h + t)).take i) v)).length < sizeLine := Nat.lt_of_le_of_lt (by rw [List.length_map, mk_len, List.length_take, rw_len]; omega : _ ≤ 5000) (by decide)
      refine ifD (fun e => ?_) (fun e => ?_)
      · walk_at "go"
        refine ⟨_, hD, sz, ?_, same_mut S nD⟩
        rw [upd_same, mk_take ek, bV_snoc, decide_eq_true e, B_1]
      · walk_at "go"
        refine ⟨_, hD, sz, ?_, same_mut S nD⟩
        rw [upd_same, mk_take ek, bV_snoc, decide_eq_false e, B_0]
    · obtain ⟨hD, S⟩ := p
      rw [List.take_of_length_le (by rw [nV_len]; exact Nat.le_refl _)] at hD
      obtain ⟨M, eM⟩ : ∃ M, M = mk (rw_ m fs bs (h + t)) v := ⟨_, rfl⟩
      have lM : M.length = h + t := by rw [eM, mk_len, rw_len]
      rw [← eM] at hD
      walk_at "go"
      refine go_join hD (by omega) ?_
      rw [joined]
      obtain ⟨s0, per⟩ := per_exists (t := M.drop h) (by rw [List.length_drop]; omega)
      obtain ⟨mm, beg⟩ := beg_exists (h := M.take h) (t := M.drop h) (s := s0)
      walk_at "go"
      have lh : (M.take h).length = h := by rw [List.length_take]; omega
      refine ⟨M.take h, M.drop h, s0, mm, by rw [List.take_append_drop, lh]; rfl, by omega, by rw [List.length_drop]; omega, by rw [List.length_drop]; omega, per, beg, fun p' H' s5 tb => ?_⟩
      refine q p' H' h t (((s1.trans s2).trans S).trans s5) rd ?_
      rw [← eM]
      exact ⟨s0, mm, per, beg, tb⟩
/-- whole -/
def spWhole : Sp := fun vs H Q _ => ∃ (a : Nat) (lo hi : Int), vs = [.int a, .int lo, .int hi] ∧ Q (.bl (decide (lo ≤ (a : Int)) && decide ((a : Int) ≤ hi))) H
theorem ok_whole : FnOk P wd K mg base CX0 1 T.a_whole T.d_whole ["_law_value", "_law_low", "_law_high"] spWhole := by
  refine T.F_whole.ok sc_whole (fun vs H Q E h => ?_) (fun cdv A outer s H vs Q E hr h => ?_)
  · obtain ⟨a, lo, hi, rfl, _⟩ := h
    rfl
  · obtain ⟨a, lo, hi, rfl, q⟩ := h
    refine ⟨_, (pss_one (ps_ret (pe_and (pe_callB call_isi rfl T.n_isinstance (by decide +kernel) (pa_cons (pv 0) (pa_cons (pe_bltn (v := .ty "int") rfl T.n_int (by decide +kernel) rfl) pa_nil))) (pe_and (pe_not (pe_callB call_isi rfl T.n_isinstance (by decide +kernel) (pa_cons (pv 0) (pa_cons (pe_bltn (v := .ty "bool") rfl T.n_bool (by decide +kernel) rfl) pa_nil)))) (pe_one (pe_chain op_le op_le (pv 1) (pv 0) (pv 2))))))), ?_⟩
    walk_at "go"
    refine ⟨_, _, _, _, true, rfl, .ty "int", .base (.int a), rfl, ?_⟩
    walk_at "go"
    refine ⟨_, _, _, _, false, rfl, .ty "bool", .base (.int a), rfl, ?_⟩
    walk_at "go"
    generalize decide (lo ≤ (a : Int)) = b1 at q ⊢
    cases b1 with
    | true =>
      walk_at "go"
      exact q
    | false => exact q
end
set_option pp.deepTerms false
set_option pp.deepTerms.threshold 5
section
variable {P : Program} {wd : World} {K : PySem.W.Frag} {mg : Str → Option Value} {base : Heap} (T : Tp K mg)
def dg (l : List Nat) : List Nat := l.map (48 + ·)
theorem dg_len (l : List Nat) : (dg l).length = l.length := List.length_map ..
theorem dg_get {l : List Nat} {i x : Nat} (h : l[i]? = some x) : (dg l)[i]? = some (48 + x) := by unfold dg; rw [List.getElem?_map, h]; rfl
theorem dg_take {l : List Nat} {x i : Nat} (h : l[i]? = some x) : dg (l.take (i + 1)) = dg (l.take i) ++ [48 + x] := by
  rw [List.take_add_one, h]
  unfold dg
  rw [List.map_append]
  rfl
abbrev cV (l : List Nat) : List V := l.map fun b => V.str (C [b])
theorem cV_snoc (l : List Nat) (b : Nat) : cV (l ++ [b]) = cV l ++ [.str (C [b])] := List.map_append
theorem dg_cut (l : List Nat) (a b : Nat) : ((dg l).take b).drop a = dg ((l.take b).drop a) := by
  unfold dg
  rw [← List.map_take, ← List.map_drop]
theorem ring_no {m : Nat} {fs bs : List Nat} {h t s : Nat} {RG : List Nat} (rl : Rl m fs bs) (rd : IsRound m fs bs h t) (l : RG.length = t) (g : ∀ i, i < t → RG[i]? = some (48 + xv m fs bs (h + i))) (s1 : 1 ≤ s) (s2 : s < t) (d : t % s = 0)
    (q : repN (t / s) (RG.take s) = RG) : False := by
  have hl : (RG.take s).length = s := by rw [List.length_take]; omega
  have e2 : t / s * s = t := by
    have := Nat.mod_add_div t s
    rw [Nat.mul_comm] at this
    omega
  refine rd.no_less rl s1 s2 d fun i hi => ?_
  have hm := Nat.mod_lt i (show 0 < s from s1)
  have a := repN_get (t / s) (RG.take s) i (by rw [hl, e2]; exact hi)
  rw [q, hl, List.getElem?_take, if_pos hm, g i hi, g _ (by omega)] at a
  have := Option.some.inj a
  omega
def spIsRound : Sp := fun vs H Q _ => ∃ (r af ab p : Addr) (m : Nat) (fs bs : List Nat) (h t : Nat), vs = [.ref r, .ref p] ∧ RuleAt H r af ab m fs bs ∧ H p = some (.tup [.int h, .int t]) ∧ IsRound m fs bs h t ∧
  ∀ H', Same H H' → Q (.bl true) H'
theorem ok_is_round : FnOk P wd K mg base CX0 2 T.a_is_round T.d_is_round ["_law_rule_here", "_law_value"] spIsRound := by
  have G_whole : FnOk P wd K mg base CX0 1 T.a_whole T.d_whole ["_law_value", "_law_low", "_law_high"] spWhole := ok_whole T
  have G_row : FnOk P wd K mg base CX0 1 T.a_row T.d_row ["_law_rule_here", "_law_many"] spRow := ok_row T
  refine T.F_is_round.ok sc_is_round (fun vs H Q E h => ?_) (fun cdv A outer s H vs Q E hr h => ?_)
  · obtain ⟨r, af, ab, p, m, fs, bs, h, t, rfl, _⟩ := h
    rfl
  · obtain ⟨r, af, ab, p, m, fs, bs, h, t, rfl, R, hp, rd, q⟩ := h
    refine ⟨_, (pss_cons (ps_par3 (i := 2) (j := 3) (l := 4) rfl sc_is_round.nd rfl rfl rfl (by decide) (by decide) (by decide) rfl rfl rfl (pa_cons (pe_ix ix_tup (pv 0) pe_int (fun _ _ => rfl)) (pa_cons (pe_callB call_len_seq rfl T.n_len PySem.boot_len (pa_cons (pe_ix ix_tup (pv 0) pe_int (fun _ _ => rfl)) pa_nil)) (pa_cons pe_int pa_nil))) rfl)
      (pss_cons (ps_for PassesOwn.never rfl (pi_range1 rfl T.n_range (pa_cons (pv 3) pa_nil)) (pg_name (i := 5) sc_is_round.nd rfl (Or.inl rfl)) (pss_one (ps_set (i := 4) sc_is_round.nd rfl (Or.inl rfl) (pe_op op_mul (pv 4) (pv 2)))))
      (pss_cons (ps_if (PW.pt (pw_or (pt_not (pt_val (pe_callB call_isi rfl T.n_isinstance (by decide +kernel) (pa_cons (pv 1) (pa_cons (pe_bltn (v := .ty "tuple") rfl T.n_tuple (by decide +kernel) rfl) pa_nil))))) (pw_or1 (pt_cmpR op_ne (pe_callB call_len_seq rfl T.n_len PySem.boot_len (pa_cons (pv 1) pa_nil)) pe_int (nomark _))))) (pss_one (ps_ret pe_bl)) pss_nil)
      (pss_cons (ps_asg (pv 1) (pg_tup rfl (pgs_cons (pg_name (i := 6) sc_is_round.nd rfl (Or.inl rfl)) (pgs_cons (pg_name (i := 7) sc_is_round.nd rfl (Or.inl rfl)) pgs_nil))))
      (pss_cons (ps_if (PW.pt (pw_or (pt_not (pt_val (pe_call G_whole hr rfl T.g_whole T.F_whole.kp (b_whole T) .nil pass0 (pa_cons (pv 6) (pa_cons pe_int (pa_cons (pv 4) pa_nil)))))) (pw_or (pt_not (pt_val (pe_call G_whole hr rfl T.g_whole T.F_whole.kp (b_whole T) .nil pass0 (pa_cons (pv 7) (pa_cons pe_int (pa_cons (pv 4) pa_nil)))))) (pw_or1 (pt_cmpR op_gt (pe_op op_add (pv 6) (pv 7)) (pv 4) (nomark _)))))) (pss_one (ps_ret pe_bl)) pss_nil)
      (pss_cons (ps_set (i := 8) sc_is_round.nd rfl (Or.inl rfl) (pe_bm PySem.F.plainAttrs_str PySem.F.slot_str_join PySem.F.type_str_join mt_join pe_str (pa_cons (pe_lc (own := [("_law_one", 11)]) rfl sc_is_round.nd (pi_list (pe_call G_row hr rfl T.g_row T.F_row.kp (b_row T) .nil pass0 (pa_cons (pv 0) (pa_cons (pe_op op_add (pe_op op_add (pv 6) (pe_op op_mul pe_int (pv 7))) (pv 3)) pa_nil)))) (blkOk_by (N := nm_is_round) (sc := defScope s_is_round) (by decide +kernel)) (fun _ _ _ _ _ => pg_name (i := 11) sc_is_round.nd rfl (Or.inl rfl)) (fun _ _ _ _ _ => pts_nil) (fun _ _ _ _ _ => (pe_callTy call_str_int rfl T.n_str (by decide +kernel) (pa_cons (pv 11) pa_nil)))) pa_nil)))
      (pss_cons (ps_if (pt_cmpR op_ne (pe_slice sl_str (pv 8) (po_some (pe_op op_add (pv 6) (pv 7))) (po_some (pe_op op_add (pe_op op_add (pv 6) (pv 7)) (pv 3)))) (pe_slice sl_str (pv 8) (po_some (pv 6)) (po_some (pe_op op_add (pv 6) (pv 3)))) (nomark _)) (pss_one (ps_ret pe_bl)) pss_nil)
      (pss_cons (ps_if (PW.pt (pw_and (pt_cmpR op_gt (pv 6) pe_int (nomark _)) (pw_and1 (pt_cmpR op_eq (pe_ix ix_str (pv 8) (pe_op op_sub (pv 6) pe_int) (fun _ _ => rfl)) (pe_ix ix_str (pv 8) (pe_op op_add (pe_op op_sub (pv 6) pe_int) (pv 7)) (fun _ _ => rfl)) (nomark _))))) (pss_one (ps_ret pe_bl)) pss_nil)
      (pss_cons (ps_set (i := 9) sc_is_round.nd rfl (Or.inl rfl) (pe_slice sl_str (pv 8) (po_some (pv 6)) (po_some (pe_op op_add (pv 6) (pv 7)))))
      (pss_cons (ps_for PassesOwn.never rfl (pi_range2 rfl T.n_range (pa_cons pe_int (pa_cons (pe_op op_add (pe_op op_fdiv (pv 7) pe_int) pe_int) pa_nil))) (pg_name (i := 10) sc_is_round.nd rfl (Or.inl rfl)) (pss_one (ps_if (PW.pt (pw_and (pt_cmpR op_eq (pe_op op_mod (pe_callTy call_int1 rfl T.n_int (by decide +kernel) (pa_cons (pv 7) pa_nil)) (pv 10)) pe_int (nomark _)) (pw_and1 (pt_cmpR op_eq (pe_op op_mulS (pe_slice sl_str (pv 9) po_none (po_some (pv 10))) (pe_op op_fdiv (pv 7) (pv 10))) (pv 9) (nomark _))))) (pss_one (ps_ret pe_bl)) pss_nil)))
      (pss_one (ps_ret pe_bl)))))))))))), ?_⟩
    have h1 := R.at_
    have hfa := R.fat
    have rl := R.rl
    have f1 := rl.f1
    have f4 := rl.f4
    have m2 := rl.m2
    have m9 := rl.m9
    have big := rl.big
    have le := rd.le rl
    have t1 := rd.t1
    iterate 8 (walk_at "go1")
    rw [nV_len]
    refine ⟨by omega, by omega, ?_⟩
    refine for_range (lo := 0) (n := ((fs.length : Nat) : Int).toNat) (fun i σ H2 => ∃ y5, σ = [some (.ref r), some (.ref p), some (.int m), some (.int fs.length), some (.int ((m ^ i : Nat) : Int)), y5, none, none, none, none, none, none] ∧ H2 = H)
      ⟨none, by rw [Nat.pow_zero]; rfl, rfl⟩ (fun i σ H2 hi px => ?_) (fun σ H2 px => ?_)
    · obtain ⟨y5, rfl, rfl⟩ := px
      have cm : CMul ((m ^ i : Nat) : Int) (m : Int) := .inr ⟨by omega, by omega⟩
      have ep : ((m ^ i : Nat) : Int) * (m : Int) = ((m ^ (i + 1) : Nat) : Int) := by rw [Nat.pow_succ, Int.natCast_mul]
      walk_at "go"
      exact rfl
    · obtain ⟨y5, rfl, rfl⟩ := px
      rw [show ((fs.length : Nat) : Int).toNat = fs.length from rfl]
      generalize hM : m ^ fs.length = M at big le
      walk_at "go"
      refine ⟨_, _, _, _, true, rfl, .ty "tuple", .base (.tup hp), rfl, ?_⟩
      walk_at "go"
      rw [decide_eq_true (by omega : (0 : Int) ≤ (h : Int)), decide_eq_true (by omega : (h : Int) ≤ (M : Int))]
      walk_at "go"
      rw [decide_eq_true (by omega : (1 : Int) ≤ (t : Int)), decide_eq_true (by omega : (t : Int) ≤ (M : Int))]
      walk_at "go"
      refine ifD (fun c => by omega) (fun _ => ?_)
      walk_at "go"
      refine ⟨r, af, ab, m, fs, bs, h + 2 * t + fs.length, ?_, R, by omega, fun L H3 s3 nL hL => ?_⟩
      · have : (h : Int) + 2 * (t : Int) + (fs.length : Int) = ((h + 2 * t + fs.length : Nat) : Int) := by omega
        show [V.ref r, V.int (_ + _ * _ + _)] = _
        rw [this]
      generalize hN : h + 2 * t + fs.length = N at hL
      walk_at "go"
      refine ⟨⟨_, sqL_of hL⟩, fun D nD => ?_⟩
      refine lc_it walk_list (fun i H4 => H4 D = some (.lst (cV (dg ((rw_ m fs bs N).take i)))) ∧ Same H3 H4) ⟨upd_same, same_new nD⟩ (fun i H4 _ p => sqL_of (p.2 _ _ hL)) (fun i x H4 H5 hi px y => ?_) (fun H4 px => ?_)
      · obtain ⟨hD, S⟩ := px
        obtain ⟨rfl, hx⟩ := y
        obtain ⟨k, ek, rfl⟩ := nV_get hx
        rw [nV_len, rw_len] at hi
        have k10 : k < 10 := by
          obtain ⟨j, _, rfl⟩ := List.mem_map.mp (List.mem_of_getElem? ek)
          have := x_lt rl j
          omega
        walk_at "go"
        refine ⟨log_small (by omega) (by omega), ?_⟩
        rw [C_dig k k10]
        refine ⟨_, hD, Nat.lt_of_le_of_lt (by rw [List.length_map, dg_len, List.length_take, rw_len]; omega : _ ≤ 40000) (by decide), ?_, same_mut S nD⟩
        rw [upd_same, dg_take ek, cV_snoc]
      · obtain ⟨hD, S⟩ := px
        rw [List.take_of_length_le (by rw [nV_len]; exact Nat.le_refl _)] at hD
        have lX : (dg (rw_ m fs bs N)).length = N := by rw [dg_len, rw_len]
        generalize hX : dg (rw_ m fs bs N) = X at hD lX
        walk_at "go"
        refine go_joinC hD (by omega) ?_
        rw [joinedC]
        have xl : X.length ≤ 1000000 := by omega
        walk_at "go"
        have xg : ∀ i, i < N → X[i]? = some (48 + xv m fs bs i) := fun i hi => by rw [← hX]; exact dg_get (rw_get hi)
        rw [C_dec, show ((h : Int) + (t : Int) + (fs.length : Int)).toNat = h + t + fs.length by omega, show ((h : Int) + (t : Int)).toNat = h + t by omega, show ((h : Int) + (fs.length : Int)).toNat = h + fs.length by omega, show ((h : Int)).toNat = h by omega]
        refine ifDn (fun c => absurd ?_ c) (fun _ => ?_)
        · rw [← hX, dg_cut, dg_cut, rw_mid rl (by omega), rw_mid rl (by omega), rd.eq]
        walk_at "go"
        refine ifD (fun h0 => ?_) (fun _ => ifF ?_)
        · walk_at "go"
          refine goC_ixS (k := h - 1) (b := 48 + xv m fs bs (h - 1)) (by omega) xl (xg _ (by omega)) ?_
          rw [C_one]
          walk_at "go"
          refine goC_ixS (k := h - 1 + t) (b := 48 + xv m fs bs (h - 1 + t)) (by omega) xl (xg _ (by omega)) ?_
          rw [C_one]
          walk_at "go"
          rw [C_dec]
          refine ifD (fun e => absurd ?_ (rd.ahead rl (by omega))) (fun _ => ?_)
          · have := (List.cons.inj e).1
            omega
          have rl0 : ((X.take (h + t)).drop h).length = t := by rw [List.length_drop, List.length_take]; omega
          have rg : ∀ i, i < t → ((X.take (h + t)).drop h)[i]? = some (48 + xv m fs bs (h + i)) := fun i hi => by
            rw [List.getElem?_drop, List.getElem?_take, if_pos (by omega), xg _ (by omega)]
          walk_at "go"
          rw [show ((h : Int) + (t : Int)).toNat = h + t by omega, show ((h : Int)).toNat = h by omega]
          generalize (X.take (h + t)).drop h = RG at rl0 rg
          refine for_range (lo := 1) (n := ((t : Int) / 2 + 1 - 1).toNat) (fun i σ H2 => ∃ y5 y10, σ = [some (.ref r), some (.ref p), some (.int m), some (.int fs.length), some (.int M), y5, some (.int h), some (.int t), some (.str (C X)), some (.str (C RG)), y10, none] ∧ H2 = H4)
            ⟨_, _, rfl, rfl⟩ (fun i σ H2 hi px => ?_) (fun σ H2 px => ?_)
          · obtain ⟨y5, y10, rfl, rfl⟩ := px
            have i1 : 1 + i < t := by omega
            have m1 : (RG.take (1 + (i : Int)).toNat).length * ((t : Int) / (1 + (i : Int))).toNat ≤ 1000000 := by
              refine mul_le (n := 1 + i) (m := t / (1 + i)) (by rw [List.length_take]; omega) ?_ ?_
              · rw [show (1 + (i : Int)) = ((1 + i : Nat) : Int) by omega, ← Int.natCast_ediv, Int.toNat_natCast]
                exact Nat.le_refl _
              · exact Nat.le_trans (Nat.mul_div_le _ _) (by omega)
            have e1 : (1 + (i : Int)).toNat = 1 + i := by omega
            have e2 : ((t : Int) / (1 + (i : Int))).toNat = t / (1 + i) := by
              rw [show (1 + (i : Int)) = ((1 + i : Nat) : Int) by omega, ← Int.natCast_ediv, Int.toNat_natCast]
            have e3 : (t : Int) % (1 + (i : Int)) = ((t % (1 + i) : Nat) : Int) := by
              rw [show (1 + (i : Int)) = ((1 + i : Nat) : Int) by omega, ← Int.natCast_emod]
            have e4 : 0 ≤ (t : Int) / (1 + (i : Int)) ∧ (t : Int) / (1 + (i : Int)) < 2 ^ 30 := by
              rw [show (1 + (i : Int)) = ((1 + i : Nat) : Int) by omega, ← Int.natCast_ediv]
              have := Nat.div_le_self t (1 + i)
              omega
            have rl6 : RG.length ≤ 1000000 := by omega
            walk_at "go"
            refine ifD (fun ed => ?_) (fun nd => ifF ?_)
            · have ed2 : t % (1 + i) = 0 := by
                have ed1 : (t : Int) % (1 + (i : Int)) = 0 := V.int.inj ed
                rw [e3] at ed1
                omega
              walk_at "go"
              rw [C_dec, e1, e2]
              refine ifD (fun er => (ring_no rl rd rl0 rg (by omega) i1 ed2 er).elim) (fun nr => ?_)
              exact ⟨_, _, rfl, rfl⟩
            · exact ⟨_, _, rfl, rfl⟩
          · obtain ⟨y5, y10, rfl, rfl⟩ := px
            walk_at "go"
            exact q _ (s3.trans S)
        · have rl0 : ((X.take (h + t)).drop h).length = t := by rw [List.length_drop, List.length_take]; omega
          have rg : ∀ i, i < t → ((X.take (h + t)).drop h)[i]? = some (48 + xv m fs bs (h + i)) := fun i hi => by
            rw [List.getElem?_drop, List.getElem?_take, if_pos (by omega), xg _ (by omega)]
          walk_at "go"
          rw [show ((h : Int) + (t : Int)).toNat = h + t by omega, show ((h : Int)).toNat = h by omega]
          generalize (X.take (h + t)).drop h = RG at rl0 rg
          refine for_range (lo := 1) (n := ((t : Int) / 2 + 1 - 1).toNat) (fun i σ H2 => ∃ y5 y10, σ = [some (.ref r), some (.ref p), some (.int m), some (.int fs.length), some (.int M), y5, some (.int h), some (.int t), some (.str (C X)), some (.str (C RG)), y10, none] ∧ H2 = H4)
            ⟨_, _, rfl, rfl⟩ (fun i σ H2 hi px => ?_) (fun σ H2 px => ?_)
          · obtain ⟨y5, y10, rfl, rfl⟩ := px
            have i1 : 1 + i < t := by omega
            have m1 : (RG.take (1 + (i : Int)).toNat).length * ((t : Int) / (1 + (i : Int))).toNat ≤ 1000000 := by
              refine mul_le (n := 1 + i) (m := t / (1 + i)) (by rw [List.length_take]; omega) ?_ ?_
              · rw [show (1 + (i : Int)) = ((1 + i : Nat) : Int) by omega, ← Int.natCast_ediv, Int.toNat_natCast]
                exact Nat.le_refl _
              · exact Nat.le_trans (Nat.mul_div_le _ _) (by omega)
            have e1 : (1 + (i : Int)).toNat = 1 + i := by omega
            have e2 : ((t : Int) / (1 + (i : Int))).toNat = t / (1 + i) := by
              rw [show (1 + (i : Int)) = ((1 + i : Nat) : Int) by omega, ← Int.natCast_ediv, Int.toNat_natCast]
            have e3 : (t : Int) % (1 + (i : Int)) = ((t % (1 + i) : Nat) : Int) := by
              rw [show (1 + (i : Int)) = ((1 + i : Nat) : Int) by omega, ← Int.natCast_emod]
            have e4 : 0 ≤ (t : Int) / (1 + (i : Int)) ∧ (t : Int) / (1 + (i : Int)) < 2 ^ 30 := by
              rw [show (1 + (i : Int)) = ((1 + i : Nat) : Int) by omega, ← Int.natCast_ediv]
              have := Nat.div_le_self t (1 + i)
              omega
            have rl6 : RG.length ≤ 1000000 := by omega
            walk_at "go"
            refine ifD (fun ed => ?_) (fun nd => ifF ?_)
            · have ed2 : t % (1 + i) = 0 := by
                have ed1 : (t : Int) % (1 + (i : Int)) = 0 := V.int.inj ed
                rw [e3] at ed1
                omega
              walk_at "go"
              rw [C_dec, e1, e2]
              refine ifD (fun er => (ring_no rl rd rl0 rg (by omega) i1 ed2 er).elim) (fun nr => ?_)
              exact ⟨_, _, rfl, rfl⟩
            · exact ⟨_, _, rfl, rfl⟩
          · obtain ⟨y5, y10, rfl, rfl⟩ := px
            walk_at "go"
            exact q _ (s3.trans S)
end
set_option pp.deepTerms false
set_option pp.deepTerms.threshold 5
section
variable {P : Program} {wd : World} {K : PySem.W.Frag} {mg : Str → Option Value} {base : Heap} (T : Tp K mg)
def rts : List (Key × V) := [(Sum.inl 4, .int 2), (Sum.inl 8, .int 2), (Sum.inl 9, .int 3)]
theorem rts_merge : mergeK [] rts = rts := by
  simp [mergeK, putK, rts]
theorem rts_get {m : Nat} (m2 : 2 ≤ m) (m9 : m ≤ 9) : ∃ rt : Nat, (valV rts (Sum.inl (m : Int))).getD (.int m) = .int rt ∧ 1 ≤ rt ∧ rt ≤ m := by
  have : m = 2 ∨ m = 3 ∨ m = 4 ∨ m = 5 ∨ m = 6 ∨ m = 7 ∨ m = 8 ∨ m = 9 := by omega
  rcases this with rfl | rfl | rfl | rfl | rfl | rfl | rfl | rfl
  · exact ⟨2, by simp [valV, rts], by decide, by decide⟩
  · exact ⟨3, by simp [valV, rts], by decide, by decide⟩
  · exact ⟨2, by simp [valV, rts], by decide, by decide⟩
  · exact ⟨5, by simp [valV, rts], by decide, by decide⟩
  · exact ⟨6, by simp [valV, rts], by decide, by decide⟩
  · exact ⟨7, by simp [valV, rts], by decide, by decide⟩
  · exact ⟨2, by simp [valV, rts], by decide, by decide⟩
  · exact ⟨3, by simp [valV, rts], by decide, by decide⟩
/-- so many numbers below m -/
def Some_ (k m : Nat) (l : List Nat) : Prop := l.length = k ∧ ∀ v, v ∈ l → v < m
theorem Some_.snoc {k m e : Nat} {l : List Nat} (h : Some_ k m l) (he : e < m) : Some_ (k + 1) m (l ++ [e]) := by
  refine ⟨by rw [List.length_append, h.1]; rfl, fun v hv => ?_⟩
  rcases List.mem_append.mp hv with z | z
  · exact h.2 v z
  · rw [List.mem_singleton.mp z]
    exact he
theorem sz4 {k m : Nat} {l : List Nat} (h : Some_ k m l) (hk : k ≤ 8) : (nV l).length < sizeLine := Nat.lt_of_le_of_lt (by rw [nV_len, h.1]; exact hk) (by decide)
def spRule : Sp := fun vs H Q _ => ∃ (w g c : Addr) (M : Nat), vs = [.ref w, .int M] ∧ Dk w g c H ∧ 9 ≤ M ∧ M ≤ 5000 ∧
  ∀ r af ab m fs bs H', Go w g H H' → Dk w g c H' → RuleAt H' r af ab m fs bs → Q (.ref r) H'
theorem Some_.set {k m e j : Nat} {l : List Nat} (h : Some_ k m l) (he : e < m) : Some_ k m (l.set j e) := by
  refine ⟨by rw [List.length_set, h.1], fun v hv => ?_⟩
  rcases List.mem_or_eq_of_mem_set hv with z | z
  · exact h.2 v z
  · rw [z]
    exact he
theorem nV_set (l : List Nat) (j e : Nat) : (nV l).set j (.int (e : Nat)) = nV (l.set j e) := (List.map_set ..).symm
theorem ix_last {n : Nat} (h : 0 < n) : ixN n (-1) = some (n - 1) := by
  unfold ixN
  rw [if_neg (by omega), if_pos (by omega)]
  congr 1
  omega
theorem rep0 (k : Nat) : (List.replicate k [V.int 0]).flatten = nV (List.replicate k 0) := by
  induction k with
  | zero => rfl
  | succ k ih => rw [List.replicate_succ, List.flatten_cons, ih, List.replicate_succ]; rfl
/-- where both lists stand -/
def NR (w g c : Addr) (M m k kd rt : Nat) (H : Hp) (σ : L2.St) (H' : Hp) : Prop := ∃ (LA LB : Addr) (fs bs : List Nat), σ = [some (.ref w), some (.int M), some (.int m), some (.int k), some (.int ((m ^ k : Nat) : Int)), some (.int kd), some (.int rt), some (.ref LA), some (.ref LB), none] ∧
  Dk w g c H' ∧ Go w g H H' ∧ Ac w g c H' LA (.lst (nV fs)) ∧ Ac w g c H' LB (.lst (nV bs)) ∧ LA ≠ LB ∧ Some_ k m fs ∧ Some_ k m bs ∧ H LA = none ∧ H LB = none
theorem go_none {w g : Addr} {H H' : Hp} {p : Addr} (S : Go w g H H') (n1 : p ≠ w) (n2 : p ≠ g) (h : H' p = none) : H p = none := by
  cases e : H p with
  | none => rfl
  | some x => rw [S _ _ n1 n2 e] at h; cases h
theorem ok_rule : FnOk P wd K mg base CX0 3 T.a_rule T.d_rule ["_law_deck_here", "_law_most"] spRule := by
  have G_draw : FnOk P wd K mg base CX0 1 T.a_draw T.d_draw ["_law_deck_here", "_law_many"] spDraw := ok_draw T
  have G_pick : FnOk P wd K mg base CX0 2 T.a_pick T.d_pick ["_law_deck_here", "_law_items"] spPick := ok_pick T
  refine T.F_rule.ok sc_rule (fun vs H Q E h => ?_) (fun cdv A outer s H vs Q E hr h => ?_)
  · obtain ⟨w, g, c, M, rfl, _⟩ := h
    rfl
  · obtain ⟨w, g, c, M, rfl, W, M9, M5, q⟩ := h
    refine ⟨_, (pss_cons (ps_set (i := 2) sc_rule.nd rfl (Or.inr rfl) (pe_op op_add pe_int (pe_call G_draw (hr.mono (by decide)) rfl T.g_draw T.F_draw.kp (b_draw T) .nil pass0 (pa_cons (pv 0) (pa_cons pe_int pa_nil)))))
      (pss_cons (ps_par (i := 3) (j := 4) rfl sc_rule.nd rfl rfl (by decide) rfl rfl (pa_cons pe_int (pa_cons (pv 2) pa_nil)) rfl)
      (C8.pss_cut (ps_while PassesOwn.never (PW.pt (pw_and (pt_cmpR op_lt (pv 3) pe_int (nomark _)) (pw_and (pt_cmpR op_le (pe_op op_mul (pv 4) (pv 2)) (pv 1) (nomark _)) (pw_and1 (pt_cmpR op_gt (pe_call G_draw (hr.mono (by decide)) rfl T.g_draw T.F_draw.kp (b_draw T) .nil pass0 (pa_cons (pv 0) (pa_cons pe_int pa_nil))) pe_int (nomark _)))))) (pss_one (ps_par (i := 3) (j := 4) rfl sc_rule.nd rfl rfl (by decide) rfl rfl (pa_cons (pe_op op_add (pv 3) pe_int) (pa_cons (pe_op op_mul (pv 4) (pv 2)) pa_nil)) rfl)))
      (pss_cons (ps_asg (pe_tup (pa_cons (pe_call G_draw (hr.mono (by decide)) rfl T.g_draw T.F_draw.kp (b_draw T) .nil pass0 (pa_cons (pv 0) (pa_cons pe_int pa_nil))) (pa_cons (pe_dget2 (hu_of hr) (pe_disp (pps_cons pe_int pe_int (pps_cons pe_int pe_int (pps_cons pe_int pe_int pps_nil))) rfl rfl (by simp) (by decide)) (pv 2) (pv 2) ⟨rfl, rfl, rfl, rfl⟩) pa_nil))) (pg_tup rfl (pgs_cons (pg_name (i := 5) sc_rule.nd rfl (Or.inl rfl)) (pgs_cons (pg_name (i := 6) sc_rule.nd rfl (Or.inr rfl)) pgs_nil))))
      (pss_cons (ps_par (i := 7) (j := 8) rfl sc_rule.nd rfl rfl (by decide) rfl rfl (pa_cons (pe_lc (own := [("_law_k", 9)]) rfl sc_rule.nd (pi_range1 rfl T.n_range (pa_cons (pv 3) pa_nil)) (blkOk_by (N := nm_rule) (sc := defScope s_rule) (by decide +kernel)) (fun _ _ _ _ _ => pg_name (i := 9) sc_rule.nd rfl (Or.inl rfl)) (fun _ _ _ _ _ => pts_nil) (fun _ _ _ _ _ => (pe_call G_draw (hr.mono (by decide)) rfl T.g_draw T.F_draw.kp (b_draw T) .nil pass0 (pa_cons (pv 0) (pa_cons (pv 2) pa_nil))))) (pa_cons (pe_lc (own := [("_law_k", 9)]) rfl sc_rule.nd (pi_range1 rfl T.n_range (pa_cons (pv 3) pa_nil)) (blkOk_by (N := nm_rule) (sc := defScope s_rule) (by decide +kernel)) (fun _ _ _ _ _ => pg_name (i := 9) sc_rule.nd rfl (Or.inl rfl)) (fun _ _ _ _ _ => pts_nil) (fun _ _ _ _ _ => (pe_call G_draw (hr.mono (by decide)) rfl T.g_draw T.F_draw.kp (b_draw T) .nil pass0 (pa_cons (pv 0) (pa_cons (pv 2) pa_nil))))) pa_nil)) rfl)
      (C8.pss_cut (ps_if (pt_cmpR op_eq (pv 5) pe_int (nomark _)) (pss_one (ps_asg (pe_call G_pick hr rfl T.g_pick T.F_pick.kp (b_pick T) .nil pass0 (pa_cons (pv 0) (pa_cons (pe_lst (pa_cons pe_int (pa_cons (pe_op op_sub (pv 2) pe_int) pa_nil))) pa_nil))) (pg_sub (pv 7) (pe_un un_neg pe_int) set_list))) pss_nil)
      (C8.pss_cut (ps_if (pt_cmpR op_eq (pv 5) pe_int (nomark _)) (pss_one (ps_setLc (i := 7) (own := [("_law_k", 9)]) rfl sc_rule.nd rfl rfl (sw_true rfl rfl rfl (by decide +kernel)) (pi_range1 rfl T.n_range (pa_cons (pv 3) pa_nil)) (blkOk_by (N := nm_rule) (sc := defScope s_rule) (by decide +kernel)) (fun _ _ _ _ _ => pg_name (i := 9) sc_rule.nd rfl (Or.inl rfl)) (fun _ _ _ _ _ => pts_nil) (fun _ _ _ _ _ => (pe_op op_mul (pv 6) (pe_call G_draw (hr.mono (by decide)) rfl T.g_draw T.F_draw.kp (b_draw T) .nil pass0 (pa_cons (pv 0) (pa_cons (pe_op op_fdiv (pv 2) (pv 6)) pa_nil))))))) pss_nil)
      (C8.pss_cut (ps_if (pt_cmpR op_eq (pv 5) pe_int (nomark _)) (pss_cons (ps_set (i := 7) sc_rule.nd rfl (Or.inl rfl) (pe_op op_rep (pe_lst (pa_cons pe_int pa_nil)) (pv 3)))
      (pss_one (ps_asg (pe_op op_add pe_int (pe_call G_draw (hr.mono (by decide)) rfl T.g_draw T.F_draw.kp (b_draw T) .nil pass0 (pa_cons (pv 0) (pa_cons (pe_op op_sub (pv 2) pe_int) pa_nil)))) (pg_sub (pv 7) (pe_call G_draw (hr.mono (by decide)) rfl T.g_draw T.F_draw.kp (b_draw T) .nil pass0 (pa_cons (pv 0) (pa_cons (pv 3) pa_nil))) set_list)))) pss_nil)
      (C8.pss_cut (ps_if (pt_cmpR op_eq (pv 5) pe_int (nomark _)) (pss_one (ps_set (i := 8) sc_rule.nd rfl (Or.inl rfl) (pe_op op_cat (pe_op op_rep (pe_lst (pa_cons pe_int pa_nil)) (pe_op op_sub (pv 3) pe_int)) (pe_lst (pa_cons pe_int pa_nil))))) pss_nil)
      (pss_one (ps_ret (pe_tup (pa_cons (pv 2) (pa_cons (pe_callTy call_tuple_of rfl T.n_tuple (by decide +kernel) (pa_cons (pv 7) pa_nil)) (pa_cons (pe_callTy call_tuple_of rfl T.n_tuple (by decide +kernel) (pa_cons (pv 8) pa_nil)) pa_nil))))))))))))))), ?_⟩
    walk_at "go"
    refine ⟨w, g, c, _, rfl, W, by omega, by omega, fun d H1 s1 W1 d0 d1 => ?_⟩
    obtain ⟨m, em⟩ : ∃ m : Nat, 2 + d = (m : Int) := ⟨(2 + d).toNat, by omega⟩
    have m2 : 2 ≤ m := by omega
    have m9 : m ≤ 9 := by omega
    refine ⟨_, _, rfl, rfl, ?_⟩
    show gName 2 (V.int (2 + d)) _ _ _
    rw [em]
    clear em
    walk_at "go"
    refine ⟨fun σ H2 => ∃ (k : Nat), σ = [some (.ref w), some (.int M), some (.int m), some (.int k), some (.int ((m ^ k : Nat) : Int)), none, none, none, none, none] ∧ Dk w g c H2 ∧ Go w g H H2 ∧ 1 ≤ k ∧ k ≤ 4 ∧ m ^ k ≤ M, ?_, fun σ H2 px => ?_⟩
    · refine ⟨fun μ σ H2 => ∃ (k : Nat), σ = [some (.ref w), some (.int M), some (.int m), some (.int k), some (.int ((m ^ k : Nat) : Int)), none, none, none, none, none] ∧ Dk w g c H2 ∧ Go w g H H2 ∧ 1 ≤ k ∧ k ≤ 4 ∧ m ^ k ≤ M ∧ μ = 4 - k,
        ⟨3, 1, by rw [Nat.pow_one]; rfl, W1, s1, by omega, by omega, by rw [Nat.pow_one]; omega, rfl⟩, fun μ σ H2 px => ?_⟩
      obtain ⟨k, rfl, W2, S2, k1, k4, kM, rfl⟩ := px
      walk_at "go"
      refine ifD (fun lt => ?_) (fun nlt => ifF ⟨k, rfl, W2, S2, k1, k4, kM⟩)
      have cm : CMul ((m ^ k : Nat) : Int) (m : Int) := .inr ⟨by omega, by omega⟩
      have ep : ((m ^ k : Nat) : Int) * (m : Int) = ((m ^ (k + 1) : Nat) : Int) := by rw [Nat.pow_succ, Int.natCast_mul]
      walk_at "go"
      refine ifD (fun fits => ?_) (fun nfits => ifF ⟨k, rfl, W2, S2, k1, k4, kM⟩)
      walk_at "go"
      refine ⟨w, g, c, _, rfl, W2, by omega, by omega, fun e H3 s3 W3 e0 e1 => ?_⟩
      walk_at "go"
      refine ifD (fun _ => ?_) (fun _ => ⟨k, rfl, W3, S2.trans s3, k1, k4, kM⟩)
      refine ⟨fun σ' H' => σ' = [some (.ref w), some (.int M), some (.int m), some (.int ((k + 1 : Nat) : Int)), some (.int ((m ^ (k + 1) : Nat) : Int)), none, none, none, none, none] ∧ H' = H3, fun σ' H' p => ?_, ?_⟩
      · obtain ⟨rfl, rfl⟩ := p
        exact ⟨4 - (k + 1), by omega, k + 1, rfl, W3, S2.trans s3, by omega, by omega, by omega, rfl⟩
      · walk_at "go"
        exact rfl
    · obtain ⟨k, rfl, W2, S2, k1, k4, kM⟩ := px
      walk_at "go"
      refine ⟨w, g, c, _, rfl, W2, by omega, by omega, fun kd H3 s3 W3 kd0 kd1 => ?_⟩
      walk_at "go"
      intro D nD
      generalize hU : upd H3 D _ = H4
      obtain ⟨s4, W4, aD⟩ := new_ofC W3 nD hU
      have hD := aD.at_
      walk_at "go"
      refine ⟨rts, rfl, by simp [rts], ?_⟩
      rw [rts_merge]
      have S5 : Go w g H2 (upd H4 D (.dK rts)) := fun x u n1 n2 e => by
        have e3 := s3 x u n1 n2 e
        rw [upd_ne (ne_of_none e3 nD)]
        exact s4 _ _ e3
      have W5 : Dk w g c (upd H4 D (.dK rts)) := W4.upd aD.nw aD.ng aD.nc
      have hD5 : (upd H4 D (.dK rts)) D = some (.dK rts) := upd_same
      generalize upd H4 D (.dK rts) = H5 at S5 W5 hD5
      refine ⟨D, rfl, .inl ⟨_, .inl hD5⟩, ?_⟩
      walk_at "go"
      refine ⟨_, DGet.k (k := Sum.inl (m : Int)) hD5, ?_⟩
      obtain ⟨rt, ert, rt1, rtm⟩ := rts_get m2 m9
      rw [ert]
      walk_at "go"
      intro p np
      generalize hU6 : upd H5 p _ = H6
      obtain ⟨s6, W6, ap⟩ := new_ofC W5 np hU6
      have hp := ap.at_
      have S6 := (S2.trans S5).trans (Go.of s6)
      clear S5 S2 s3 s4 s6 hU hU6 hD hD5 nD np aD ap
      iterate 6 (walk_at "go1")
      refine ⟨by omega, by omega, fun LA nA => ?_⟩
      refine lc_it walk_range (fun i H7 => ∃ ls : List Nat, H7 LA = some (.lst (nV ls)) ∧ Some_ i m ls ∧ Dk w g c H7 ∧ Go w g H6 H7) ⟨[], upd_same, ⟨rfl, fun v h => by cases h⟩, W6.same (same_new nA), Go.of (same_new nA)⟩ (fun _ _ _ _ => trivial) (fun i x H7 H8 hi p y => ?_) (fun H7 p => ?_)
      · obtain ⟨ls, hA, so, W7, S7⟩ := p
        obtain ⟨rfl, rfl⟩ := y
        walk_at "go"
        refine ⟨w, g, c, _, rfl, W7, by omega, by omega, fun e H9 s9 W9 e0 e1 => ?_⟩
        obtain ⟨nw, ng, nc⟩ := W6.fresh nA
        obtain ⟨ev, rfl⟩ : ∃ ev : Nat, e = (ev : Int) := ⟨e.toNat, by omega⟩
        exact ⟨_, s9 _ _ nw ng hA, sz4 so (by omega), ls ++ [ev], by rw [upd_same, nV_snoc], so.snoc (by omega), W9.upd nw ng nc, go_upd' (S7.trans s9) nA⟩
      · obtain ⟨fs, hA, sA, W7, S7⟩ := p
        rw [show ((k : Nat) : Int).toNat = k from rfl] at sA
        obtain ⟨nAw, nAg, nAc⟩ := W6.fresh nA
        iterate 2 (walk_at "go1")
        refine ⟨by omega, by omega, fun LB nB => ?_⟩
        obtain ⟨nBw, nBg, nBc⟩ := W7.fresh nB
        have nAB : LA ≠ LB := ne_of_none hA nB
        have nA0 : H LA = none := go_none S6 nAw nAg nA
        have nB0 : H LB = none := go_none (S6.trans S7) nBw nBg nB
        refine lc_it walk_range (fun i H8 => ∃ ls : List Nat, H8 LB = some (.lst (nV ls)) ∧ Some_ i m ls ∧ Dk w g c H8 ∧ Go w g H7 H8) ⟨[], upd_same, ⟨rfl, fun v h => by cases h⟩, W7.same (same_new nB), Go.of (same_new nB)⟩ (fun _ _ _ _ => trivial) (fun i x H8 H9 hi p y => ?_) (fun H8 p => ?_)
        · obtain ⟨ls, hB, so, W8, S8⟩ := p
          obtain ⟨rfl, rfl⟩ := y
          walk_at "go"
          refine ⟨w, g, c, _, rfl, W8, by omega, by omega, fun e H10 s10 W10 e0 e1 => ?_⟩
          obtain ⟨ev, rfl⟩ : ∃ ev : Nat, e = (ev : Int) := ⟨e.toNat, by omega⟩
          exact ⟨_, s10 _ _ nBw nBg hB, sz4 so (by omega), ls ++ [ev], by rw [upd_same, nV_snoc], so.snoc (by omega), W10.upd nBw nBg nBc, go_upd' (S8.trans s10) nB⟩
        · obtain ⟨bs, hB, sB, W8, S8⟩ := p
          rw [show ((k : Nat) : Int).toNat = k from rfl] at sB
          have hA8 := S8 _ _ nAw nAg hA
          have S := (S6.trans S7).trans S8
          have aA : Ac w g c H8 LA (.lst (nV fs)) := ⟨nAw, nAg, nAc, hA8⟩
          have aB : Ac w g c H8 LB (.lst (nV bs)) := ⟨nBw, nBg, nBc, hB⟩
          clear S6 S7 S8 hA hA8 hB nA nB W6 W7 W2
          obtain ⟨kv, rfl⟩ : ∃ kv : Nat, kd = (kv : Int) := ⟨kd.toNat, by omega⟩
          have N0 : NR w g c M m k kv rt H [some (.ref w), some (.int M), some (.int m), some (.int k), some (.int ((m ^ k : Nat) : Int)), some (.int kv), some (.int rt), some (.ref LA), some (.ref LB), none] H8 :=
            ⟨LA, LB, fs, bs, rfl, W8, S, aA, aB, nAB, sA, sB, nA0, nB0⟩
          walk_at "go"
          refine ⟨NR w g c M m k kv rt H, ?_, fun σ X1 px => ?_⟩
          · walk_at "go"
            refine ifD (fun _ => ?_) (fun _ => N0)
            walk_at "go"
            intro l1 nl1
            generalize hU1 : upd H8 l1 _ = H9
            obtain ⟨s9, W9, al1⟩ := new_ofC W8 nl1 hU1
            refine ⟨w, g, c, l1, _, rfl, W9, al1, by simp, by simp, fun x H10 mx s10 W10 => ?_⟩
            obtain ⟨e, em, rfl⟩ : ∃ e : Nat, e < m ∧ x = .int (e : Nat) := by
              rcases (by simpa using mx : x = V.int 1 ∨ x = V.int ((m : Int) - 1)) with rfl | rfl
              · exact ⟨1, by omega, rfl⟩
              · exact ⟨m - 1, by omega, by congr 1; omega⟩
            have aA' := (aA.same s9).go s10
            have aB' := (aB.same s9).go s10
            walk_at "go"
            refine ⟨LA, _, -1, k - 1, rfl, rfl, aA'.at_, by rw [nV_len, sA.1]; exact ix_last (by omega), ?_⟩
            rw [nV_set]
            refine ⟨LA, LB, _, bs, rfl, W10.upd aA.nw aA.ng aA.nc, ?_, aA'.set, aB'.upd nAB.symm, nAB, sA.set em, sB, nA0, nB0⟩
            exact go_upd' ((S.trans (Go.of s9)).trans s10) nA0
          · clear N0 aA aB nAB sA sB nA0 nB0 S W8 nAw nAg nAc nBw nBg nBc
            obtain ⟨LA, LB, fs, bs, rfl, W8, S, aA, aB, nAB, sA, sB, nA0, nB0⟩ := px
            refine ⟨NR w g c M m k kv rt H, ?_, fun σ X2 px => ?_⟩
            · walk_at "go"
              refine ifD (fun _ => ?_) (fun _ => ⟨LA, LB, fs, bs, rfl, W8, S, aA, aB, nAB, sA, sB, nA0, nB0⟩)
              have dm := Nat.mod_add_div m rt
              have dl := Nat.mod_lt m (show 0 < rt by omega)
              have e1 : (m : Int) / (rt : Int) = ((m / rt : Nat) : Int) := (Int.natCast_ediv ..).symm
              have q1 : 1 ≤ m / rt := Nat.div_pos rtm (by omega)
              iterate 2 (walk_at "go1")
              refine ⟨by omega, by omega, fun LC nC => ?_⟩
              obtain ⟨nCw, nCg, nCc⟩ := W8.fresh nC
              refine lc_it walk_range (fun i H9 => ∃ ls : List Nat, H9 LC = some (.lst (nV ls)) ∧ Some_ i m ls ∧ Dk w g c H9 ∧ Go w g X1 H9) ⟨[], upd_same, ⟨rfl, fun v h => by cases h⟩, W8.same (same_new nC), Go.of (same_new nC)⟩ (fun _ _ _ _ => trivial) (fun i x H9 H10 hi p y => ?_) (fun H9 p => ?_)
              · obtain ⟨ls, hC, so, W9, S9⟩ := p
                obtain ⟨rfl, rfl⟩ := y
                walk_at "go"
                refine ⟨w, g, c, _, rfl, W9, by rw [e1]; omega, by rw [e1]; have := Nat.div_le_self m rt; omega, fun e H11 s11 W11 d0 d1 => ?_⟩
                obtain ⟨ev, rfl⟩ : ∃ ev : Nat, e = (ev : Int) := ⟨e.toNat, by omega⟩
                have ee : rt * ev < m := by
                  rw [e1] at d1
                  have h1 : rt * (ev + 1) ≤ rt * (m / rt) := Nat.mul_le_mul_left _ (by omega)
                  rw [Nat.mul_add, Nat.mul_one] at h1
                  omega
                walk_at "go"
                refine ⟨_, s11 _ _ nCw nCg hC, sz4 so (by omega), ls ++ [rt * ev], ?_, so.snoc ee, W11.upd nCw nCg nCc, go_upd' (S9.trans s11) nC⟩
                rw [upd_same, nV_snoc, Int.natCast_mul]
              · obtain ⟨ls, hC, so, W9, S9⟩ := p
                rw [show ((k : Nat) : Int).toNat = k from rfl] at so
                exact ⟨LC, LB, ls, bs, rfl, W9, S.trans S9, ⟨nCw, nCg, nCc, hC⟩, aB.go S9, (ne_of_none aB.at_ nC).symm, so, sB, go_none S nCw nCg nC, nB0⟩
            · clear aA aB nAB sA sB nA0 nB0 S W8
              obtain ⟨LA, LB, fs, bs, rfl, W8, S, aA, aB, nAB, sA, sB, nA0, nB0⟩ := px
              refine ⟨NR w g c M m k kv rt H, ?_, fun σ X3 px => ?_⟩
              · walk_at "go"
                refine ifD (fun _ => ?_) (fun _ => ⟨LA, LB, fs, bs, rfl, W8, S, aA, aB, nAB, sA, sB, nA0, nB0⟩)
                walk_at "go"
                intro l1 nl1
                generalize hU1 : upd X2 l1 _ = H9
                obtain ⟨s9, W9, al1⟩ := new_ofC W8 nl1 hU1
                walk_at "go"
                refine ⟨l1, k, _, rfl, rfl, al1.at_, by omega, by omega, szl (by simp; omega), fun LC nC => ?_⟩
                generalize hU2 : upd H9 LC _ = H10
                obtain ⟨s10, W10, aC⟩ := new_ofC W9 nC hU2
                have eC : (List.replicate ((k : Nat) : Int).toNat [V.int 0]).flatten = nV (List.replicate k 0) := by
                  rw [show ((k : Nat) : Int).toNat = k from rfl, rep0]
                rw [eC] at aC
                have sC : Some_ k m (List.replicate k 0) := ⟨List.length_replicate, fun v hv => by rw [(List.mem_replicate.mp hv).2]; omega⟩
                walk_at "go"
                refine ⟨w, g, c, _, rfl, W10, by omega, by omega, fun e H11 s11 W11 e0 e1 => ?_⟩
                obtain ⟨ev, rfl⟩ : ∃ ev : Nat, e = (ev : Int) := ⟨e.toNat, by omega⟩
                walk_at "go"
                refine ⟨w, g, c, _, rfl, W11, by omega, by omega, fun f H12 s12 W12 f0 f1 => ?_⟩
                have S12 := ((Go.of (s9.trans s10)).trans s11).trans s12
                have aC12 := (aC.go s11).go s12
                have aB12 := aB.go S12
                have nC0 : H LC = none := go_none (S.trans (Go.of s9)) aC.nw aC.ng nC
                refine ⟨LC, _, f, f.toNat, rfl, rfl, aC12.at_, by rw [nV_len, sC.1]; exact ix_at (by omega) (by omega), ?_⟩
                have nCB : LC ≠ LB := (ne_of_none (aB.same s9).at_ nC).symm
                refine ⟨LC, LB, (List.replicate k 0).set f.toNat (1 + ev), bs, rfl, W12.upd aC.nw aC.ng aC.nc, go_upd' (S.trans S12) nC0, ?_, aB12.upd nCB.symm, nCB, sC.set (by omega), sB, nC0, nB0⟩
                rw [← nV_set]
                exact aC12.set
              · clear aA aB nAB sA sB nA0 nB0 S W8
                obtain ⟨LA, LB, fs, bs, rfl, W8, S, aA, aB, nAB, sA, sB, nA0, nB0⟩ := px
                refine ⟨NR w g c M m k kv rt H, ?_, fun σ X4 px => ?_⟩
                · walk_at "go"
                  refine ifD (fun _ => ?_) (fun _ => ⟨LA, LB, fs, bs, rfl, W8, S, aA, aB, nAB, sA, sB, nA0, nB0⟩)
                  walk_at "go"
                  intro l1 nl1
                  generalize hU1 : upd X3 l1 _ = H9
                  obtain ⟨s9, W9, al1⟩ := new_ofC W8 nl1 hU1
                  walk_at "go"
                  refine ⟨l1, (k : Int) - 1, _, rfl, rfl, al1.at_, by omega, by omega, szl (by simp; omega), fun l2 nl2 => ?_⟩
                  generalize hU2 : upd H9 l2 _ = H10
                  obtain ⟨s10, W10, al2⟩ := new_ofC W9 nl2 hU2
                  rw [show ((k : Int) - 1).toNat = k - 1 by omega, rep0] at al2
                  walk_at "go"
                  intro l3 nl3
                  generalize hU3 : upd H10 l3 _ = H11
                  obtain ⟨s11, W11, al3⟩ := new_ofC W10 nl3 hU3
                  refine ⟨l2, l3, _, _, rfl, rfl, s11 _ _ al2.at_, al3.at_, szl (by rw [nV_len, List.length_replicate]; simp; omega), fun LC nC => ?_⟩
                  generalize hU4 : upd H11 LC _ = H12
                  obtain ⟨s12, W12, aC⟩ := new_ofC W11 nC hU4
                  have eC : nV (List.replicate (k - 1) 0) ++ [V.int 1] = nV (List.replicate (k - 1) 0 ++ [1]) := by rw [nV_snoc]; rfl
                  rw [eC] at aC
                  have sC : Some_ k m (List.replicate (k - 1) 0 ++ [1]) := by
                    have h0 : Some_ (k - 1) m (List.replicate (k - 1) 0) := ⟨List.length_replicate, fun v hv => by rw [(List.mem_replicate.mp hv).2]; omega⟩
                    have := h0.snoc (e := 1) (by omega)
                    rwa [show k - 1 + 1 = k by omega] at this
                  have S12 : Same X3 H12 := ((s9.trans s10).trans s11).trans s12
                  walk_at "go"
                  exact ⟨LA, LC, fs, _, rfl, W12, S.trans (Go.of S12), aA.same S12, aC, ne_of_none (((aA.same s9).same s10).same s11).at_ nC, sA, sC, nA0, go_none (S.trans (Go.of ((s9.trans s10).trans s11))) aC.nw aC.ng nC⟩
                · clear aA aB nAB sA sB nA0 nB0 S W8
                  obtain ⟨LA, LB, fs, bs, rfl, W8, S, aA, aB, nAB, sA, sB, nA0, nB0⟩ := px
                  walk_at "go"
                  refine ⟨LA, _, rfl, .inl ⟨sqL_of aA.at_, fun p1 np1 => ?_⟩⟩
                  generalize hU1 : upd X4 p1 _ = H9
                  obtain ⟨s9, W9, ap1⟩ := new_ofC W8 np1 hU1
                  walk_at "go"
                  refine ⟨LB, _, rfl, .inl ⟨sqL_of (aB.same s9).at_, fun p2 np2 => ?_⟩⟩
                  generalize hU2 : upd H9 p2 _ = H10
                  obtain ⟨s10, W10, ap2⟩ := new_ofC W9 np2 hU2
                  walk_at "go"
                  intro p3 np3
                  generalize hU3 : upd H10 p3 _ = H11
                  obtain ⟨s11, W11, ap3⟩ := new_ofC W10 np3 hU3
                  refine q p3 p1 p2 m fs bs H11 (S.trans (Go.of ((s9.trans s10).trans s11))) W11 ⟨ap3.at_, s11 _ _ (s10 _ _ ap1.at_), s11 _ _ ap2.at_, ⟨m2, m9, by rw [sA.1]; exact k1, by rw [sA.1]; exact k4, by rw [sA.1, sB.1], sA.2, sB.2, by rw [sA.1]; omega⟩⟩
end
set_option pp.deepTerms false
set_option pp.deepTerms.threshold 5
section
variable {P : Program} {wd : World} {K : PySem.W.Frag} {mg : Str → Option Value} {base : Heap} (T : Tp K mg)
theorem kb_round_of_rule : KBinds K T.d_round_of ["rule"] ["rule"] oneW oneW := by
  obtain ⟨oc, od, kV, doc, pm, an, cdv, ct, osl, e, lk, hcd⟩ := T.F_round_of.ex
  rw [e]
  exact kbinds_one fun a => rfl
theorem kb_reads_value_rule : KBinds K T.d_reads ["rule", "value"] ["value", "rule"] swapW swapW := by
  obtain ⟨oc, od, kV, doc, pm, an, cdv, ct, osl, e, lk, hcd⟩ := T.F_reads.ex
  rw [e]
  exact kbinds_swap fun a b => rfl
theorem rgV_nV (m : Nat) : rgV 0 (m : Int) = nV (List.range m) := by
  unfold rgV
  rw [show ((m : Int) - 0).toNat = m by omega]
  apply List.map_congr_left
  intro i _
  show V.int (0 + (i : Int)) = _
  rw [Int.zero_add]
theorem at_last {xs : List V} {v : V} (h : xs[xs.length - 1]? = some v) : atI xs (-1) = some v := by
  have hl : 0 < xs.length := by
    cases xs with
    | nil => simp at h
    | cons a l => simp
  unfold atI ixN
  rw [if_neg (by omega), if_pos (by omega)]
  show xs[(-1 + (xs.length : Int)).toNat]? = _
  rw [show (-1 + (xs.length : Int)).toNat = xs.length - 1 by omega]
  exact h
theorem Ac.sqL' {K : PySem.W.Frag} {w g c : Addr} {H : Hp} {a : Addr} {xs : List V} (x : Ac w g c H a (.lst xs)) : SqL K H a xs := sqL_of x.at_
/-- where the numbers stand that are asked -/
structure NL (w g c a r af ab p l2 LR : Addr) (M M0 m h t : Nat) (fs bs : List Nat) (σ : L2.St) (H : Hp) (LN : Addr) (ns : List Nat) (y9 y10 y11 : Option V) : Prop where
  sl : σ = [some (.ref a), some (.ref w), some (.int M), some (.ref r), some (.ref p), some (.int h), some (.int t), some (.ref LR), some (.ref LN), y9, y10, y11, none]
  dk : Dk w g c H
  ru : RuleAt H r af ab m fs bs
  lr : Ac w g c H LR (.lst (nV (rw_ m fs bs (h + t))))
  ln : Ac w g c H LN (.lst (nV ns))
  l2 : Ac w g c H l2 (.lst [.int (M0 : Nat), .int 343, .int 81, .int 81, .int 9])
  lt : ∀ v, v ∈ ns → v < m
  le : ns.length ≤ 9
theorem rl_a : Rl 4 [2] [1] := ⟨by decide, by decide, by decide, by decide, by decide, by simp, by simp, by decide⟩
theorem rd_a : IsRound 4 [2] [1] 2 1 := by
  refine ⟨by decide, by decide, fun i j hij hj => ?_⟩
  have : (i = 0 ∧ j = 1) ∨ (i = 0 ∧ j = 2) ∨ (i = 1 ∧ j = 2) := by omega
  rcases this with ⟨rfl, rfl⟩ | ⟨rfl, rfl⟩ | ⟨rfl, rfl⟩ <;> decide
theorem rl_b : Rl 2 [1, 1] [0, 1] := ⟨by decide, by decide, by decide, by decide, by decide, by simp, by simp, by decide⟩
theorem rd_b : IsRound 2 [1, 1] [0, 1] 0 3 := by
  refine ⟨by decide, by decide, fun i j hij hj => ?_⟩
  have : (i = 0 ∧ j = 1) ∨ (i = 0 ∧ j = 2) ∨ (i = 1 ∧ j = 2) := by omega
  rcases this with ⟨rfl, rfl⟩ | ⟨rfl, rfl⟩ | ⟨rfl, rfl⟩ <;> decide
theorem mk_b : mk (rw_ 2 [1, 1] [0, 1] (0 + 3)) 0 = [true, false, false] := by decide
theorem per_b : IsPer [true, false, false] 3 := by
  refine ⟨by decide, by decide, rot_len _, fun k k1 k3 r => ?_⟩
  have : k = 1 ∨ k = 2 := by omega
  rcases this with rfl | rfl
  · exact absurd (r 0 (by decide)) (by decide)
  · exact absurd (r 0 (by decide)) (by decide)
theorem beg_b : IsBeg [] [true, false, false] 3 0 := ⟨by decide, fun n _ h => by simp at h, .inl rfl⟩
def spLaw (K : PySem.W.Frag) : Sp := fun vs H Q _ => ∃ (a : Addr) (ns : List Int), vs = [.ref a] ∧ SqL K H a (ns.map V.int) ∧ ns.length ≤ 63 ∧ ∀ H', Q (.bl true) H'
theorem ok_law : FnG P wd K mg base 5 T.a_law T.d_law ["_law_script"] (spLaw K) := by
  have G_deck : FnOk P wd K mg base CX0 1 T.a_deck T.d_deck ["_law_script"] (spDeck K) := ok_deck T
  have G_draw : FnOk P wd K mg base CX0 1 T.a_draw T.d_draw ["_law_deck_here", "_law_many"] spDraw := ok_draw T
  have G_pick : FnOk P wd K mg base CX0 2 T.a_pick T.d_pick ["_law_deck_here", "_law_items"] spPick := ok_pick T
  have G_rule : FnOk P wd K mg base CX0 3 T.a_rule T.d_rule ["_law_deck_here", "_law_most"] spRule := ok_rule T
  have G_row : FnOk P wd K mg base CX0 1 T.a_row T.d_row ["_law_rule_here", "_law_many"] spRow := ok_row T
  have G_lleast : FnOk P wd K mg base CX0 1 T.a_lleast T.d_lleast ["_law_head", "_law_turn"] spLeastS := ok_lleast T
  have G_is_round : FnOk P wd K mg base CX0 2 T.a_is_round T.d_is_round ["_law_rule_here", "_law_value"] spIsRound := ok_is_round T
  have G_round_of : FnOk P wd K mg base CX0 2 T.a_round_of T.d_round_of ["rule"] spRound := ok_round_of T
  have G_reads : FnOk P wd K mg base CX0 4 T.a_reads T.d_reads ["rule", "value"] spReads := ok_reads T
  refine fnG_of T.F_law sc_law (fun vs H Q E h => ?_) (fun cdv A ou s H vs Q E hgd0 hr h => ?_)
  · obtain ⟨a, ns, rfl, _⟩ := h
    rfl
  · have hgd : (cxOf CX0 P wd K mg base nm_law "law" (defScope s_law) T.a_law cdv A ou s H E).nox.A.guards = some [] := hgd0
    have hu4 : (cxOf CX0 P wd K mg base nm_law "law" (defScope s_law) T.a_law cdv A ou s H E).nox.A.units + 64 < cLine := hr.units
    obtain ⟨a, ns, rfl, hS, hl, q⟩ := h
    refine ⟨_, (pss_cons (ps_set (i := 1) sc_law.nd rfl (Or.inl rfl) (pe_call G_deck (hr.mono (by decide)) rfl T.g_deck T.F_deck.kp (b_deck T) .nil pass0 (pa_cons (pv 0) pa_nil)))
      (pss_cons (ps_for PassesOwn.never rfl (pi_list (pe_lst (pa_cons (pe_call G_pick (hr.mono (by decide)) rfl T.g_pick T.F_pick.kp (b_pick T) .nil pass0 (pa_cons (pv 1) (pa_cons (pe_lst (pa_cons pe_int (pa_cons pe_int (pa_cons pe_int pa_nil)))) pa_nil))) (pa_cons pe_int (pa_cons pe_int (pa_cons pe_int (pa_cons pe_int pa_nil))))))) (pg_name (i := 2) sc_law.nd rfl (Or.inl rfl)) (pss_cons (ps_set (i := 3) sc_law.nd rfl (Or.inl rfl) (pe_call G_rule (hr.mono (by decide)) rfl T.g_rule T.F_rule.kp (b_rule T) .nil pass0 (pa_cons (pv 1) (pa_cons (pv 2) pa_nil))))
      (pss_cons (ps_set (i := 4) sc_law.nd rfl (Or.inl rfl) (pe_call G_round_of (hr.mono (by decide)) rfl T.g_round_of T.F_round_of.kp (b_round_of T) .nil pass0 (pa_cons (pv 3) pa_nil)))
      (pss_cons (ps_if (PW.pt (pw_or (pt_not (pt_val (pe_call G_is_round (hr.mono (by decide)) rfl T.g_is_round T.F_is_round.kp (b_is_round T) .nil pass0 (pa_cons (pv 3) (pa_cons (pv 4) pa_nil))))) (pw_or1 (pt_cmpR op_ne (pe_callB (call_reprD hgd hu4) rfl T.n_repr (by decide +kernel) (pa_cons (pe_callK0 G_round_of (hr.mono (by decide)) rfl T.g_round_of T.F_round_of.kp (kb_round_of_rule T) pass0 (pk_cons (pv 3) pk_nil)) pa_nil)) (pe_callB (call_reprD hgd hu4) rfl T.n_repr (by decide +kernel) (pa_cons (pv 4) pa_nil)) (nomark _))))) (pss_one (ps_ret pe_bl)) pss_nil)
      (pss_cons (ps_asg (pv 4) (pg_tup rfl (pgs_cons (pg_name (i := 5) sc_law.nd rfl (Or.inl rfl)) (pgs_cons (pg_name (i := 6) sc_law.nd rfl (Or.inl rfl)) pgs_nil))))
      (pss_cons (ps_set (i := 7) sc_law.nd rfl (Or.inl rfl) (pe_call G_row (hr.mono (by decide)) rfl T.g_row T.F_row.kp (b_row T) .nil pass0 (pa_cons (pv 3) (pa_cons (pe_op op_add (pv 5) (pv 6)) pa_nil))))
      (pss_cons (ps_set (i := 8) sc_law.nd rfl (Or.inl rfl) (pe_listRg rfl rfl T.n_list (prg_1 rfl T.n_range (pe_ix ix_tup (pv 3) pe_int (fun _ _ => rfl)))))
      (C8.pss_cut (ps_if (pt_cmpR op_gt (pv 6) pe_int (nomark _)) (pss_one (ps_set (i := 8) sc_law.nd rfl (Or.inl rfl) (pe_lst (pa_cons (pe_call G_draw (hr.mono (by decide)) rfl T.g_draw T.F_draw.kp (b_draw T) .nil pass0 (pa_cons (pv 1) (pa_cons (pe_ix ix_tup (pv 3) pe_int (fun _ _ => rfl)) pa_nil))) (pa_cons (pe_ix ix_list (pv 7) pe_int (fun _ _ => rfl)) (pa_cons (pe_ix ix_list (pv 7) (pe_un un_neg pe_int) (fun _ _ => rfl)) pa_nil)))))) pss_nil)
      (pss_cons (ps_for PassesOwn.never rfl (pi_list (pv 8)) (pg_name (i := 9) sc_law.nd rfl (Or.inr rfl)) (pss_cons (ps_set (i := 10) sc_law.nd rfl (Or.inl rfl) (pe_bm PySem.F.plainAttrs_str PySem.F.slot_str_join PySem.F.type_str_join mt_join pe_str (pa_cons (pe_lc (own := [("_law_one", 12)]) rfl sc_law.nd (pi_list (pv 7)) (blkOk_by (N := nm_law) (sc := defScope s_law) (by decide +kernel)) (fun _ _ _ _ _ => pg_name (i := 12) sc_law.nd rfl (Or.inl rfl)) (fun _ _ _ _ _ => pts_nil) (fun _ _ _ _ _ => (pe_ifExp (pt_cmpR op_eq (pv 12) (pv 9) (nomark _)) pe_str pe_str))) pa_nil)))
      (pss_cons (ps_set (i := 11) sc_law.nd rfl (Or.inl rfl) (pe_call G_lleast (hr.mono (by decide)) rfl T.g_lleast T.F_lleast.kp (b_lleast T) .nil pass0 (pa_cons (pe_slice sl_str (pv 10) po_none (po_some (pv 5))) (pa_cons (pe_slice sl_str (pv 10) (po_some (pv 5)) po_none) pa_nil))))
      (pss_one (ps_if (pt_cmpR op_ne (pe_callB (call_reprD hgd hu4) rfl T.n_repr (by decide +kernel) (pa_cons (pe_lst (pa_cons (pe_call G_reads hr rfl T.g_reads T.F_reads.kp (b_reads T) .nil pass0 (pa_cons (pv 3) (pa_cons (pv 9) pa_nil))) (pa_cons (pe_callK0 G_reads hr rfl T.g_reads T.F_reads.kp (kb_reads_value_rule T) pass0 (pk_cons (pv 9) (pk_cons (pv 3) pk_nil))) pa_nil))) pa_nil)) (pe_callB (call_reprD hgd hu4) rfl T.n_repr (by decide +kernel) (pa_cons (pe_lst (pa_cons (pv 11) (pa_cons (pv 11) pa_nil))) pa_nil)) (nomark _)) (pss_one (ps_ret pe_bl)) pss_nil)))))
      (pss_one (ps_if (PW.pt (pw_and (pt_cmpR op_in_seq (pe_ix ix_tup (pv 3) pe_int (fun _ _ => rfl)) (pe_tup (pa_cons pe_int (pa_cons pe_int (pa_cons pe_int (pa_cons pe_int pa_nil))))) (by rfl)) (pw_and (pt_cmpR op_gt (pe_ix ix_tup (pe_ix ix_tup (pv 3) pe_int (fun _ _ => rfl)) (pe_un un_neg pe_int) (fun _ _ => rfl)) pe_int (nomark _)) (pw_and1 (pt_cmpR op_gt (pv 5) pe_int (nomark _)))))) (pss_one (ps_ret pe_bl)) pss_nil)))))))))))
      (pss_one (ps_ret (pe_and (pe_cmpR (op_eqD hu4) (pe_call G_round_of (hr.mono (by decide)) rfl T.g_round_of T.F_round_of.kp (b_round_of T) .nil pass0 (pa_cons (pe_tup (pa_cons pe_int (pa_cons (pe_tup (pa_cons pe_int pa_nil)) (pa_cons (pe_tup (pa_cons pe_int pa_nil)) pa_nil)))) pa_nil)) (pe_tup (pa_cons pe_int (pa_cons pe_int pa_nil))) (nomark _)) (pe_one (pe_cmpR (op_eqD hu4) (pe_call G_reads hr rfl T.g_reads T.F_reads.kp (b_reads T) .nil pass0 (pa_cons (pe_tup (pa_cons pe_int (pa_cons (pe_tup (pa_cons pe_int (pa_cons pe_int pa_nil))) (pa_cons (pe_tup (pa_cons pe_int (pa_cons pe_int pa_nil))) pa_nil)))) (pa_cons pe_int pa_nil))) (pe_tup (pa_cons pe_str (pa_cons pe_str pa_nil))) (nomark _)))))))), ?_⟩
    walk_at "go"
    refine ⟨a, ns, rfl, hS, hl, fun w g c H1 s1 W1 => ?_⟩
    walk_at "go"
    intro l1 nl1
    generalize hU1 : upd H1 l1 _ = H2
    obtain ⟨s2, W2, al1⟩ := new_ofC W1 nl1 hU1
    refine ⟨w, g, c, l1, _, rfl, W2, al1, by simp, by simp, fun x H3 mx s3 W3 => ?_⟩
    obtain ⟨M0, hM0, hM1, rfl⟩ : ∃ M0 : Nat, 9 ≤ M0 ∧ M0 ≤ 5000 ∧ x = .int (M0 : Nat) := by
      rcases (by simpa using mx : x = V.int 5000 ∨ x = V.int 2500 ∨ x = V.int 700) with rfl | rfl | rfl
      · exact ⟨5000, by decide, by decide, rfl⟩
      · exact ⟨2500, by decide, by decide, rfl⟩
      · exact ⟨700, by decide, by decide, rfl⟩
    walk_at "go"
    intro l2 nl2
    generalize hU2 : upd H3 l2 _ = H4
    obtain ⟨s4, W4, al2⟩ := new_ofC W3 nl2 hU2
    clear hU1 hU2 nl1 nl2 s1 s2 s3 s4 al1 W1 W2 W3
    refine ⟨l2, rfl, ⟨_, sqL_of al2.at_⟩, ?_⟩
    refine for_it walk_list (fun i σ H5 => ∃ y2 y3 y4 y5 y6 y7 y8 y9 y10 y11 : Option V, σ = [some (.ref a), some (.ref w), y2, y3, y4, y5, y6, y7, y8, y9, y10, y11, none] ∧ Dk w g c H5 ∧ Ac w g c H5 l2 (.lst [.int (M0 : Nat), .int 343, .int 81, .int 81, .int 9]))
      ⟨_, _, _, _, _, _, _, _, _, _, rfl, W4, al2⟩ (fun i σ H5 _ px => sqL_of px.choose_spec.choose_spec.choose_spec.choose_spec.choose_spec.choose_spec.choose_spec.choose_spec.choose_spec.choose_spec.2.2.at_) (fun i x σ H5 H6 hi px y => ?_) (fun σ H5 px => ?_)
    · obtain ⟨y2, y3, y4, y5, y6, y7, y8, y9, y10, y11, rfl, W5, al5⟩ := px
      obtain ⟨rfl, hx⟩ := y
      obtain ⟨M, hM0', hM1', rfl⟩ : ∃ M : Nat, 9 ≤ M ∧ M ≤ 5000 ∧ x = .int (M : Nat) := by
        have mx := List.mem_of_getElem? hx
        rcases (by simpa using mx : x = V.int (M0 : Nat) ∨ x = V.int 343 ∨ x = V.int 81 ∨ x = V.int 81 ∨ x = V.int 9) with rfl | rfl | rfl | rfl | rfl
        · exact ⟨M0, hM0, hM1, rfl⟩
        · exact ⟨343, by decide, by decide, rfl⟩
        · exact ⟨81, by decide, by decide, rfl⟩
        · exact ⟨81, by decide, by decide, rfl⟩
        · exact ⟨9, by decide, by decide, rfl⟩
      walk_at "go"
      refine ⟨w, g, c, M, rfl, W5, hM0', hM1', fun r af ab m fs bs H7 s7 W7 R7 => ?_⟩
      have al7 := al5.go s7
      have rl := R7.rl
      have m2 := rl.m2
      have m9 := rl.m9
      have f1 := rl.f1
      have f4 := rl.f4
      have big := rl.big
      walk_at "go"
      refine ⟨r, af, ab, m, fs, bs, rfl, R7, fun p H8 h t s8 rd hp => ?_⟩
      have le := rd.le rl
      have t1 := rd.t1
      walk_at "go"
      refine ⟨r, af, ab, p, m, fs, bs, h, t, rfl, R7.same s8, hp, rd, fun H9 s9 => ?_⟩
      have R9 := (R7.same s8).same s9
      walk_at "go"
      refine ⟨r, af, ab, m, fs, bs, rfl, R9, fun p2 H10 h' t' s10 rd2 hp2 => ?_⟩
      obtain ⟨rfl, rfl⟩ := rd2.uniq rd
      have kk : ∀ k ∈ [h', t'], k ≤ 10000 := fun k hk => by
        simp only [List.mem_cons, List.not_mem_nil, or_false] at hk
        rcases hk with rfl | rfl <;> omega
      walk_at "go"
      refine repr_ki (ks := [h', t']) hp2 kk (by simp) ?_
      walk_at "go"
      have hp10 := s10 _ _ (s9 _ _ hp)
      refine repr_ki (ks := [h', t']) hp10 kk (by simp) ?_
      walk_at "go"
      refine ifDn (fun c => absurd rfl c) (fun _ => ?_)
      have R10 := R9.same s10
      have W10 := ((W7.same s8).same s9).same s10
      have al10 := ((al7.same s8).same s9).same s10
      have hr10 := R10.at_
      walk_at "go"
      refine ⟨r, af, ab, m, fs, bs, h' + t', rfl, R10, by omega, fun LR H11 s11 nR hR => ?_⟩
      have R11 := R10.same s11
      have W11 := W10.same s11
      have al11 := al10.same s11
      have aR : Ac w g c H11 LR (.lst (nV (rw_ m fs bs (h' + t')))) := ⟨(W10.fresh nR).1, (W10.fresh nR).2.1, (W10.fresh nR).2.2, hR⟩
      have hr11 := R11.at_
      clear s7 s8 s9 s10 s11 R7 R9 R10 W5 W7 W10 al5 al7 al10 hp hp2 hp10 hr10 nR hR
      walk_at "go"
      intro LN nN
      generalize hU : upd H11 LN _ = H12
      obtain ⟨s12, W12, aN⟩ := new_ofC W11 nN hU
      rw [rgV_nV] at aN
      have R12 := R11.same s12
      have aR12 := aR.same s12
      have al12 := al11.same s12
      clear W11 R11 aR al11 hr11 s12 nN hU
      refine ⟨fun σ H' => ∃ LN ns z9 z10 z11, NL w g c a r af ab p l2 LR M M0 m h' t' fs bs σ H' LN ns z9 z10 z11, ?_, fun σ X1 px => ?_⟩
      · walk_at "go"
        refine ifD (fun big90 => ?_) (fun _ => ?_)
        · have hr12 := R12.at_
          walk_at "go"
          refine ⟨w, g, c, _, rfl, W12, by omega, by omega, fun d H13 s13 W13 d0 d1 => ?_⟩
          have hR13 := (aR12.go s13).at_
          have g0 : (nV (rw_ m fs bs (h' + t')))[0]? = some (.int (xv m fs bs 0 : Nat)) := by rw [List.getElem?_map, rw_get (by omega)]; rfl
          have gl : (nV (rw_ m fs bs (h' + t')))[(nV (rw_ m fs bs (h' + t'))).length - 1]? = some (.int (xv m fs bs (h' + t' - 1) : Nat)) := by
            rw [nV_len, rw_len, List.getElem?_map, rw_get (by omega)]; rfl
          walk_at "go"
          refine go_ixLast hR13 gl ?_
          walk_at "go"
          intro LC nC
          generalize hU : upd H13 LC _ = H14
          obtain ⟨s14, W14, aC⟩ := new_ofC W13 nC hU
          obtain ⟨dv, rfl⟩ : ∃ dv : Nat, d = (dv : Int) := ⟨d.toNat, by omega⟩
          have eC : [V.int (dv : Nat), V.int (xv m fs bs 0 : Nat), V.int (xv m fs bs (h' + t' - 1) : Nat)] = nV [dv, xv m fs bs 0, xv m fs bs (h' + t' - 1)] := rfl
          rw [eC] at aC
          refine ⟨LC, _, _, _, _, rfl, W14, (R12.go W12 s13).same s14, (aR12.go s13).same s14, aC, (al12.go s13).same s14, fun v hv => ?_, by simp⟩
          rcases (by simpa using hv : v = dv ∨ v = xv m fs bs 0 ∨ v = xv m fs bs (h' + t' - 1)) with rfl | rfl | rfl
          · omega
          · exact x_lt rl _
          · exact x_lt rl _
        · exact ⟨LN, List.range m, _, _, _, rfl, W12, R12, aR12, aN, al12, fun v hv => List.mem_range.mp hv, by rw [List.length_range]; exact m9⟩
      · obtain ⟨LN, ns', z9, z10, z11, x⟩ := px
        obtain ⟨rfl, W12, R12, aR12, aN, al12, nlt, nle⟩ := x
        walk_at "go"
        refine ⟨⟨_, sqL_of aN.at_⟩, ?_⟩
        refine for_it walk_list (fun i σ H5 => ∃ z9 z10 z11, NL w g c a r af ab p l2 LR M M0 m h' t' fs bs σ H5 LN ns' z9 z10 z11)
          ⟨_, _, _, rfl, W12, R12, aR12, aN, al12, nlt, nle⟩ (fun i σ H5 _ px => sqL_of px.choose_spec.choose_spec.choose_spec.ln.at_) (fun i x σ H13 H14 hi px y => ?_) (fun σ H13 px => ?_)
        · obtain ⟨z9, z10, z11, sl, W13, R13, aR13, aN13, al13, _, _⟩ := px
          subst sl
          obtain ⟨rfl, hx⟩ := y
          obtain ⟨v, ev, rfl⟩ := nV_get hx
          have vm : v < m := nlt v (List.mem_of_getElem? ev)
          have hR13 := aR13.at_
          walk_at "go"
          refine ⟨⟨_, sqL_of hR13⟩, fun D nD => ?_⟩
          refine lc_it walk_list (fun i H15 => H15 D = some (.lst (bV (mk ((rw_ m fs bs (h' + t')).take i) v))) ∧ Same H14 H15) ⟨upd_same, same_new nD⟩ (fun i H15 _ p => sqL_of (p.2 _ _ hR13)) (fun i x H15 H16 hi p y => ?_) (fun H15 p => ?_)
          · obtain ⟨hD, S⟩ := p
            obtain ⟨rfl, hx⟩ := y
            obtain ⟨k, ek, rfl⟩ := nV_get hx
            walk_at "go"
            rw [vi_decN]
            have sz : (bV (mk ((rw_ m fs bs (h' + t')).take i) v)).length < sizeLine := Nat.lt_of_le_of_lt (by rw [List.length_map, mk_len, List.length_take, rw_len]; omega : _ ≤ 5000) (by decide)
            refine ifD (fun e => ?_) (fun e => ?_)
            · walk_at "go"
              refine ⟨_, hD, sz, ?_, same_mut S nD⟩
              rw [upd_same, mk_take ek, bV_snoc, decide_eq_true e, B_1]
            · walk_at "go"
              refine ⟨_, hD, sz, ?_, same_mut S nD⟩
              rw [upd_same, mk_take ek, bV_snoc, decide_eq_false e, B_0]
          · obtain ⟨hD, S⟩ := p
            rw [List.take_of_length_le (by rw [nV_len]; exact Nat.le_refl _)] at hD
            obtain ⟨MK, eM⟩ : ∃ MK, MK = mk (rw_ m fs bs (h' + t')) v := ⟨_, rfl⟩
            have lM : MK.length = h' + t' := by rw [eM, mk_len, rw_len]
            rw [← eM] at hD
            walk_at "go"
            refine go_join hD (by omega) ?_
            rw [joined]
            obtain ⟨s0, per⟩ := per_exists (t := MK.drop h') (by rw [List.length_drop]; omega)
            obtain ⟨mm, beg⟩ := beg_exists (h := MK.take h') (t := MK.drop h') (s := s0)
            have lM1 : MK.length ≤ 1000000 := by omega
            walk_at "go"
            rw [show ((h' : Nat) : Int).toNat = h' from rfl]
            refine ⟨MK.take h', MK.drop h', s0, mm, rfl, by rw [List.length_take]; omega, by rw [List.length_drop]; omega, by rw [List.length_drop]; omega, per, beg, fun q1 H16 s16 tb1 => ?_⟩
            walk_at "go"
            have S16 : Same H14 H16 := S.trans s16
            have R16 := R13.same S16
            refine ⟨r, af, ab, m, fs, bs, v, rfl, R16, fun q2 H17 h2 t2 s17 rd2 lo2 => ?_⟩
            obtain ⟨rfl, rfl⟩ := rd.uniq rd2
            rw [← eM] at lo2
            obtain ⟨s2', mm2, per2, beg2, tb2⟩ := lo2
            obtain rfl := per.uniq per2
            obtain rfl := beg.uniq beg2
            walk_at "go"
            refine ⟨r, af, ab, m, fs, bs, v, rfl, R16.same s17, fun q3 H18 h3 t3 s18 rd3 lo3 => ?_⟩
            obtain ⟨rfl, rfl⟩ := rd.uniq rd3
            rw [← eM] at lo3
            obtain ⟨s3', mm3, per3, beg3, tb3⟩ := lo3
            obtain rfl := per.uniq per3
            obtain rfl := beg.uniq beg3
            walk_at "go"
            intro l5 nl5
            generalize hU5 : upd H18 l5 _ = H19
            obtain ⟨s19, hl5⟩ := new_of0 nl5 hU5
            have tb1' := ((tb1.same s17).same s18).same s19
            have tb2' := (tb2.same s18).same s19
            have tb3' := tb3.same s19
            refine repr_t2 hl5 tb2'.1 tb3'.1 tb2'.2.1 tb2'.2.2.2 tb3'.2.1 tb3'.2.2.2 ?_
            walk_at "go"
            intro l6 nl6
            generalize hU6 : upd H19 l6 _ = H20
            obtain ⟨s20, hl6⟩ := new_of0 nl6 hU6
            have tb1'' := tb1'.same s20
            refine repr_t2 hl6 tb1''.1 tb1''.1 tb1''.2.1 tb1''.2.2.2 tb1''.2.1 tb1''.2.2.2 ?_
            walk_at "go"
            refine ifDn (fun c => absurd rfl c) (fun _ => ?_)
            have S20 := (((S16.trans s17).trans s18).trans s19).trans s20
            exact ⟨_, _, _, rfl, W13.same S20, R13.same S20, aR13.same S20, aN13.same S20, al13.same S20, nlt, nle⟩
        · obtain ⟨z9, z10, z11, sl, W13, R13, aR13, aN13, al13, _, _⟩ := px
          subst sl
          have hr13 := R13.at_
          walk_at "go"
          intro p4 np4
          generalize hU : upd H13 p4 _ = H14
          obtain ⟨s14, W14, ap4⟩ := new_ofC W13 np4 hU
          have R14 := R13.same s14
          have hr14 := R14.at_
          have hf14 := R14.fat
          refine ⟨p4, _, rfl, .inr (sqT_of ap4.at_), rfl, rfl, ?_⟩
          have ei : inV (V.int (m : Nat)) [V.int 2, V.int 3, V.int 5, V.int 7] = decide (m = 2 ∨ m = 3 ∨ m = 5 ∨ m = 7) := by
            have : m = 2 ∨ m = 3 ∨ m = 4 ∨ m = 5 ∨ m = 6 ∨ m = 7 ∨ m = 8 ∨ m = 9 := by omega
            rcases this with rfl | rfl | rfl | rfl | rfl | rfl | rfl | rfl <;> decide
          rw [ei]
          refine ⟨_, rfl, ?_⟩
          refine ifD (fun pm => ?_) (fun _ => ifF ?_)
          · walk_at "go"
            obtain ⟨fl, efl⟩ : ∃ fl, fs[fs.length - 1]? = some fl := ⟨_, List.getElem?_eq_getElem (by omega)⟩
            refine ⟨af, nV fs, -1, .int (fl : Nat), rfl, rfl, sqT_of hf14, at_last (by rw [nV_len, List.getElem?_map, efl]; rfl), ?_⟩
            walk_at "go"
            refine ifD (fun f0 => ?_) (fun _ => ifF ?_)
            · walk_at "go"
              refine ifD (fun h0 => ?_) (fun _ => ?_)
              · have := rd.zero rl pm efl (by omega)
                omega
              · exact ⟨_, _, _, _, _, _, _, _, _, _, rfl, W14, al13.same s14⟩
            · exact ⟨_, _, _, _, _, _, _, _, _, _, rfl, W14, al13.same s14⟩
          · exact ⟨_, _, _, _, _, _, _, _, _, _, rfl, W14, al13.same s14⟩
    · obtain ⟨y2, y3, y4, y5, y6, y7, y8, y9, y10, y11, rfl, W5, al5⟩ := px
      walk_at "go"
      intro b1 nb1
      generalize hB1 : upd H5 b1 _ = H6
      obtain ⟨s6, hb1⟩ := new_of0 nb1 hB1
      walk_at "go"
      intro b2 nb2
      generalize hB2 : upd H6 b2 _ = H7
      obtain ⟨s7, hb2⟩ := new_of0 nb2 hB2
      walk_at "go"
      intro b3 nb3
      generalize hB3 : upd H7 b3 _ = H8
      obtain ⟨s8, hb3⟩ := new_of0 nb3 hB3
      refine ⟨b3, b1, b2, 4, [2], [1], rfl, ⟨hb3, s8 _ _ (s7 _ _ hb1), s8 _ _ hb2, rl_a⟩, fun p H9 h t s9 rd hp => ?_⟩
      obtain ⟨rfl, rfl⟩ := rd_a.uniq rd
      walk_at "go"
      intro b4 nb4
      generalize hB4 : upd H9 b4 _ = H10
      obtain ⟨s10, hb4⟩ := new_of0 nb4 hB4
      have hp10 := s10 _ _ hp
      refine ⟨.tuple [.int 2, .int 1], .tuple [.int 2, .int 1], .tup (sqT_of hp10) (.cons (.int _) (.cons (.int _) .nil)), .tup (sqT_of hb4) (.cons (.int _) (.cons (.int _) .nil)), by decide, by decide, ?_⟩
      rw [show PyData.eqv (.tuple [.int 2, .int 1]) (.tuple [.int 2, .int 1]) = true by decide]
      walk_at "go"
      intro b5 nb5
      generalize hB5 : upd H10 b5 _ = H11
      obtain ⟨s11, hb5⟩ := new_of0 nb5 hB5
      walk_at "go"
      intro b6 nb6
      generalize hB6 : upd H11 b6 _ = H12
      obtain ⟨s12, hb6⟩ := new_of0 nb6 hB6
      walk_at "go"
      intro b7 nb7
      generalize hB7 : upd H12 b7 _ = H13
      obtain ⟨s13, hb7⟩ := new_of0 nb7 hB7
      refine ⟨b7, b5, b6, 2, [1, 1], [0, 1], 0, rfl, ⟨hb7, s13 _ _ (s12 _ _ hb5), s13 _ _ hb6, rl_b⟩, fun p2 H14 h t s14 rd2 lo => ?_⟩
      obtain ⟨rfl, rfl⟩ := rd_b.uniq rd2
      rw [mk_b] at lo
      obtain ⟨s', mm, per, beg, tb⟩ := lo
      obtain rfl := per_b.uniq per
      obtain rfl := beg_b.uniq beg
      walk_at "go"
      intro b8 nb8
      generalize hB8 : upd H14 b8 _ = H15
      obtain ⟨s15, hb8⟩ := new_of0 nb8 hB8
      have tb' := (tb.same s15).1
      have eh : rng (sg (List.take 0 [true, false, false]) (List.drop 0 [true, false, false])) 0 0 = [] := rfl
      have et : rng (sg (List.take 0 [true, false, false]) (List.drop 0 [true, false, false])) 0 3 = [true, false, false] := by decide
      rw [eh, et] at tb'
      have e100 : ("100" : Str) = B [true, false, false] := by decide +kernel
      have hb8' : H15 b8 = some (.tup [.str (B []), .str (B [true, false, false])]) := by
        rw [hb8, ← B_nil, ← e100]
      refine ⟨dTab [] [true, false, false], dTab [] [true, false, false], dp_tab tb', dp_tab hb8', shaped_tab _ _, shaped_tab _ _, ?_⟩
      rw [eqv_tab, decide_eq_true ⟨rfl, rfl⟩]
      exact q H15
end
theorem all_mk {l : PySem.W.OpenLaw} {w : World} {K : PySem.W.Frag} {h : Heap} {mg : Str → Option Value} {fa : Addr} (X : K.In h) (G : h.Ns mainGlobals mg) (hfa : mg "law" = some (.ref fa))
    {f_sum_ahead : Addr} {od_sum_ahead an_sum_ahead : Option Addr} {sl_sum_ahead : Array (Option Value)} {oc_sum_ahead kV_sum_ahead dc_sum_ahead pm_sum_ahead cd_sum_ahead ct_sum_ahead : Value}
    {f_least : Addr} {od_least an_least : Option Addr} {sl_least : Array (Option Value)} {oc_least kV_least dc_least pm_least cd_least ct_least : Value}
    {f_table_of : Addr} {od_table_of an_table_of : Option Addr} {sl_table_of : Array (Option Value)} {oc_table_of kV_table_of dc_table_of pm_table_of cd_table_of ct_table_of : Value}
    {f_shortest : Addr} {od_shortest an_shortest : Option Addr} {sl_shortest : Array (Option Value)} {oc_shortest kV_shortest dc_shortest pm_shortest cd_shortest ct_shortest : Value}
    {f_alike : Addr} {od_alike an_alike : Option Addr} {sl_alike : Array (Option Value)} {oc_alike kV_alike dc_alike pm_alike cd_alike ct_alike : Value}
    {f_values : Addr} {od_values an_values : Option Addr} {sl_values : Array (Option Value)} {oc_values kV_values dc_values pm_values cd_values ct_values : Value}
    {f_round_of : Addr} {od_round_of an_round_of : Option Addr} {sl_round_of : Array (Option Value)} {oc_round_of kV_round_of dc_round_of pm_round_of cd_round_of ct_round_of : Value}
    {f_reads : Addr} {od_reads an_reads : Option Addr} {sl_reads : Array (Option Value)} {oc_reads kV_reads dc_reads pm_reads cd_reads ct_reads : Value}
    {f_deck : Addr} {od_deck an_deck : Option Addr} {sl_deck : Array (Option Value)} {oc_deck kV_deck dc_deck pm_deck cd_deck ct_deck : Value}
    {f_draw : Addr} {od_draw an_draw : Option Addr} {sl_draw : Array (Option Value)} {oc_draw kV_draw dc_draw pm_draw cd_draw ct_draw : Value}
    {f_pick : Addr} {od_pick an_pick : Option Addr} {sl_pick : Array (Option Value)} {oc_pick kV_pick dc_pick pm_pick cd_pick ct_pick : Value}
    {f_whole : Addr} {od_whole an_whole : Option Addr} {sl_whole : Array (Option Value)} {oc_whole kV_whole dc_whole pm_whole cd_whole ct_whole : Value}
    {f_rule : Addr} {od_rule an_rule : Option Addr} {sl_rule : Array (Option Value)} {oc_rule kV_rule dc_rule pm_rule cd_rule ct_rule : Value}
    {f_row : Addr} {od_row an_row : Option Addr} {sl_row : Array (Option Value)} {oc_row kV_row dc_row pm_row cd_row ct_row : Value}
    {f_lleast : Addr} {od_lleast an_lleast : Option Addr} {sl_lleast : Array (Option Value)} {oc_lleast kV_lleast dc_lleast pm_lleast cd_lleast ct_lleast : Value}
    {f_is_round : Addr} {od_is_round an_is_round : Option Addr} {sl_is_round : Array (Option Value)} {oc_is_round kV_is_round dc_is_round pm_is_round cd_is_round ct_is_round : Value}
    {f_law : Addr} {od_law an_law : Option Addr} {sl_law : Array (Option Value)} {oc_law kV_law dc_law pm_law cd_law ct_law : Value}
    (a_sum_ahead : PySem.W.nsIn K mainGlobals "sum_ahead" = some (some (.ref f_sum_ahead)))
    (l_sum_ahead : K.lookup f_sum_ahead = some ⟨oc_sum_ahead, od_sum_ahead, .func (PySem.W.fnOf "sum_ahead" "sum_ahead" (defArgs s_sum_ahead) (defBody s_sum_ahead) (defScope s_sum_ahead) .none kV_sum_ahead dc_sum_ahead pm_sum_ahead an_sum_ahead cd_sum_ahead ct_sum_ahead), sl_sum_ahead⟩)
    (c_sum_ahead : PySem.W.codeIn K cd_sum_ahead "sum_ahead" = true) (k_sum_ahead : PySem.W.keepIn K (.ref f_sum_ahead) = true)
    (a_least : PySem.W.nsIn K mainGlobals "least" = some (some (.ref f_least)))
    (l_least : K.lookup f_least = some ⟨oc_least, od_least, .func (PySem.W.fnOf "least" "least" (defArgs s_least) (defBody s_least) (defScope s_least) .none kV_least dc_least pm_least an_least cd_least ct_least), sl_least⟩)
    (c_least : PySem.W.codeIn K cd_least "least" = true) (k_least : PySem.W.keepIn K (.ref f_least) = true)
    (a_table_of : PySem.W.nsIn K mainGlobals "table_of" = some (some (.ref f_table_of)))
    (l_table_of : K.lookup f_table_of = some ⟨oc_table_of, od_table_of, .func (PySem.W.fnOf "table_of" "table_of" (defArgs s_table_of) (defBody s_table_of) (defScope s_table_of) .none kV_table_of dc_table_of pm_table_of an_table_of cd_table_of ct_table_of), sl_table_of⟩)
    (c_table_of : PySem.W.codeIn K cd_table_of "table_of" = true) (k_table_of : PySem.W.keepIn K (.ref f_table_of) = true)
    (a_shortest : PySem.W.nsIn K mainGlobals "_shortest_turn" = some (some (.ref f_shortest)))
    (l_shortest : K.lookup f_shortest = some ⟨oc_shortest, od_shortest, .func (PySem.W.fnOf "_shortest_turn" "_shortest_turn" (defArgs s_shortest) (defBody s_shortest) (defScope s_shortest) .none kV_shortest dc_shortest pm_shortest an_shortest cd_shortest ct_shortest), sl_shortest⟩)
    (c_shortest : PySem.W.codeIn K cd_shortest "_shortest_turn" = true) (k_shortest : PySem.W.keepIn K (.ref f_shortest) = true)
    (a_alike : PySem.W.nsIn K mainGlobals "_alike_signs" = some (some (.ref f_alike)))
    (l_alike : K.lookup f_alike = some ⟨oc_alike, od_alike, .func (PySem.W.fnOf "_alike_signs" "_alike_signs" (defArgs s_alike) (defBody s_alike) (defScope s_alike) .none kV_alike dc_alike pm_alike an_alike cd_alike ct_alike), sl_alike⟩)
    (c_alike : PySem.W.codeIn K cd_alike "_alike_signs" = true) (k_alike : PySem.W.keepIn K (.ref f_alike) = true)
    (a_values : PySem.W.nsIn K mainGlobals "values" = some (some (.ref f_values)))
    (l_values : K.lookup f_values = some ⟨oc_values, od_values, .func (PySem.W.fnOf "values" "values" (defArgs s_values) (defBody s_values) (defScope s_values) .none kV_values dc_values pm_values an_values cd_values ct_values), sl_values⟩)
    (c_values : PySem.W.codeIn K cd_values "values" = true) (k_values : PySem.W.keepIn K (.ref f_values) = true)
    (a_round_of : PySem.W.nsIn K mainGlobals "round_of" = some (some (.ref f_round_of)))
    (l_round_of : K.lookup f_round_of = some ⟨oc_round_of, od_round_of, .func (PySem.W.fnOf "round_of" "round_of" (defArgs s_round_of) (defBody s_round_of) (defScope s_round_of) .none kV_round_of dc_round_of pm_round_of an_round_of cd_round_of ct_round_of), sl_round_of⟩)
    (c_round_of : PySem.W.codeIn K cd_round_of "round_of" = true) (k_round_of : PySem.W.keepIn K (.ref f_round_of) = true)
    (a_reads : PySem.W.nsIn K mainGlobals "reads" = some (some (.ref f_reads)))
    (l_reads : K.lookup f_reads = some ⟨oc_reads, od_reads, .func (PySem.W.fnOf "reads" "reads" (defArgs s_reads) (defBody s_reads) (defScope s_reads) .none kV_reads dc_reads pm_reads an_reads cd_reads ct_reads), sl_reads⟩)
    (c_reads : PySem.W.codeIn K cd_reads "reads" = true) (k_reads : PySem.W.keepIn K (.ref f_reads) = true)
    (a_deck : PySem.W.nsIn K mainGlobals "_law_deck" = some (some (.ref f_deck)))
    (l_deck : K.lookup f_deck = some ⟨oc_deck, od_deck, .func (PySem.W.fnOf "_law_deck" "_law_deck" (defArgs s_deck) (defBody s_deck) (defScope s_deck) .none kV_deck dc_deck pm_deck an_deck cd_deck ct_deck), sl_deck⟩)
    (c_deck : PySem.W.codeIn K cd_deck "_law_deck" = true) (k_deck : PySem.W.keepIn K (.ref f_deck) = true)
    (a_draw : PySem.W.nsIn K mainGlobals "_law_draw" = some (some (.ref f_draw)))
    (l_draw : K.lookup f_draw = some ⟨oc_draw, od_draw, .func (PySem.W.fnOf "_law_draw" "_law_draw" (defArgs s_draw) (defBody s_draw) (defScope s_draw) .none kV_draw dc_draw pm_draw an_draw cd_draw ct_draw), sl_draw⟩)
    (c_draw : PySem.W.codeIn K cd_draw "_law_draw" = true) (k_draw : PySem.W.keepIn K (.ref f_draw) = true)
    (a_pick : PySem.W.nsIn K mainGlobals "_law_pick" = some (some (.ref f_pick)))
    (l_pick : K.lookup f_pick = some ⟨oc_pick, od_pick, .func (PySem.W.fnOf "_law_pick" "_law_pick" (defArgs s_pick) (defBody s_pick) (defScope s_pick) .none kV_pick dc_pick pm_pick an_pick cd_pick ct_pick), sl_pick⟩)
    (c_pick : PySem.W.codeIn K cd_pick "_law_pick" = true) (k_pick : PySem.W.keepIn K (.ref f_pick) = true)
    (a_whole : PySem.W.nsIn K mainGlobals "_law_whole" = some (some (.ref f_whole)))
    (l_whole : K.lookup f_whole = some ⟨oc_whole, od_whole, .func (PySem.W.fnOf "_law_whole" "_law_whole" (defArgs s_whole) (defBody s_whole) (defScope s_whole) .none kV_whole dc_whole pm_whole an_whole cd_whole ct_whole), sl_whole⟩)
    (c_whole : PySem.W.codeIn K cd_whole "_law_whole" = true) (k_whole : PySem.W.keepIn K (.ref f_whole) = true)
    (a_rule : PySem.W.nsIn K mainGlobals "_law_rule" = some (some (.ref f_rule)))
    (l_rule : K.lookup f_rule = some ⟨oc_rule, od_rule, .func (PySem.W.fnOf "_law_rule" "_law_rule" (defArgs s_rule) (defBody s_rule) (defScope s_rule) .none kV_rule dc_rule pm_rule an_rule cd_rule ct_rule), sl_rule⟩)
    (c_rule : PySem.W.codeIn K cd_rule "_law_rule" = true) (k_rule : PySem.W.keepIn K (.ref f_rule) = true)
    (a_row : PySem.W.nsIn K mainGlobals "_law_row" = some (some (.ref f_row)))
    (l_row : K.lookup f_row = some ⟨oc_row, od_row, .func (PySem.W.fnOf "_law_row" "_law_row" (defArgs s_row) (defBody s_row) (defScope s_row) .none kV_row dc_row pm_row an_row cd_row ct_row), sl_row⟩)
    (c_row : PySem.W.codeIn K cd_row "_law_row" = true) (k_row : PySem.W.keepIn K (.ref f_row) = true)
    (a_lleast : PySem.W.nsIn K mainGlobals "_law_least" = some (some (.ref f_lleast)))
    (l_lleast : K.lookup f_lleast = some ⟨oc_lleast, od_lleast, .func (PySem.W.fnOf "_law_least" "_law_least" (defArgs s_lleast) (defBody s_lleast) (defScope s_lleast) .none kV_lleast dc_lleast pm_lleast an_lleast cd_lleast ct_lleast), sl_lleast⟩)
    (c_lleast : PySem.W.codeIn K cd_lleast "_law_least" = true) (k_lleast : PySem.W.keepIn K (.ref f_lleast) = true)
    (a_is_round : PySem.W.nsIn K mainGlobals "_law_is_round" = some (some (.ref f_is_round)))
    (l_is_round : K.lookup f_is_round = some ⟨oc_is_round, od_is_round, .func (PySem.W.fnOf "_law_is_round" "_law_is_round" (defArgs s_is_round) (defBody s_is_round) (defScope s_is_round) .none kV_is_round dc_is_round pm_is_round an_is_round cd_is_round ct_is_round), sl_is_round⟩)
    (c_is_round : PySem.W.codeIn K cd_is_round "_law_is_round" = true) (k_is_round : PySem.W.keepIn K (.ref f_is_round) = true)
    (a_law : PySem.W.nsIn K mainGlobals "law" = some (some (.ref f_law)))
    (l_law : K.lookup f_law = some ⟨oc_law, od_law, .func (PySem.W.fnOf "law" "law" (defArgs s_law) (defBody s_law) (defScope s_law) .none kV_law dc_law pm_law an_law cd_law ct_law), sl_law⟩)
    (c_law : PySem.W.codeIn K cd_law "law" = true) (k_law : PySem.W.keepIn K (.ref f_law) = true)
    (z_abs : PySem.W.nsIn K mainGlobals "abs" = some none)
    (z_bool : PySem.W.nsIn K mainGlobals "bool" = some none)
    (z_int : PySem.W.nsIn K mainGlobals "int" = some none)
    (z_isinstance : PySem.W.nsIn K mainGlobals "isinstance" = some none)
    (z_len : PySem.W.nsIn K mainGlobals "len" = some none)
    (z_list : PySem.W.nsIn K mainGlobals "list" = some none)
    (z_range : PySem.W.nsIn K mainGlobals "range" = some none)
    (z_repr : PySem.W.nsIn K mainGlobals "repr" = some none)
    (z_str : PySem.W.nsIn K mainGlobals "str" = some none)
    (z_sum : PySem.W.nsIn K mainGlobals "sum" = some none)
    (z_tuple : PySem.W.nsIn K mainGlobals "tuple" = some none)
    (z_zip : PySem.W.nsIn K mainGlobals "zip" = some none)
    : ∃ fd : FuncData, (∀ (s : Shared) (v : Value), BindsTo s fd ⟨[v], []⟩ [("_law_script", v)]) ∧ ∀ base : Heap, K.In base → base.Ns mainGlobals mg → FnG l.prog w K mg base 5 fa fd ["_law_script"] (spLaw K) := by
  have e := hfa.symm.trans (PySem.W.mg_of X G a_law)
  cases e
  let T : Tp K mg := {
    a_sum_ahead := f_sum_ahead, d_sum_ahead := _, F_sum_ahead := fun_mk (st := s_sum_ahead) l_sum_ahead c_sum_ahead k_sum_ahead, g_sum_ahead := PySem.W.mg_of X G a_sum_ahead,
    a_least := f_least, d_least := _, F_least := fun_mk (st := s_least) l_least c_least k_least, g_least := PySem.W.mg_of X G a_least,
    a_table_of := f_table_of, d_table_of := _, F_table_of := fun_mk (st := s_table_of) l_table_of c_table_of k_table_of, g_table_of := PySem.W.mg_of X G a_table_of,
    a_shortest := f_shortest, d_shortest := _, F_shortest := fun_mk (st := s_shortest) l_shortest c_shortest k_shortest, g_shortest := PySem.W.mg_of X G a_shortest,
    a_alike := f_alike, d_alike := _, F_alike := fun_mk (st := s_alike) l_alike c_alike k_alike, g_alike := PySem.W.mg_of X G a_alike,
    a_values := f_values, d_values := _, F_values := fun_mk (st := s_values) l_values c_values k_values, g_values := PySem.W.mg_of X G a_values,
    a_round_of := f_round_of, d_round_of := _, F_round_of := fun_mk (st := s_round_of) l_round_of c_round_of k_round_of, g_round_of := PySem.W.mg_of X G a_round_of,
    a_reads := f_reads, d_reads := _, F_reads := fun_mk (st := s_reads) l_reads c_reads k_reads, g_reads := PySem.W.mg_of X G a_reads,
    a_deck := f_deck, d_deck := _, F_deck := fun_mk (st := s_deck) l_deck c_deck k_deck, g_deck := PySem.W.mg_of X G a_deck,
    a_draw := f_draw, d_draw := _, F_draw := fun_mk (st := s_draw) l_draw c_draw k_draw, g_draw := PySem.W.mg_of X G a_draw,
    a_pick := f_pick, d_pick := _, F_pick := fun_mk (st := s_pick) l_pick c_pick k_pick, g_pick := PySem.W.mg_of X G a_pick,
    a_whole := f_whole, d_whole := _, F_whole := fun_mk (st := s_whole) l_whole c_whole k_whole, g_whole := PySem.W.mg_of X G a_whole,
    a_rule := f_rule, d_rule := _, F_rule := fun_mk (st := s_rule) l_rule c_rule k_rule, g_rule := PySem.W.mg_of X G a_rule,
    a_row := f_row, d_row := _, F_row := fun_mk (st := s_row) l_row c_row k_row, g_row := PySem.W.mg_of X G a_row,
    a_lleast := f_lleast, d_lleast := _, F_lleast := fun_mk (st := s_lleast) l_lleast c_lleast k_lleast, g_lleast := PySem.W.mg_of X G a_lleast,
    a_is_round := f_is_round, d_is_round := _, F_is_round := fun_mk (st := s_is_round) l_is_round c_is_round k_is_round, g_is_round := PySem.W.mg_of X G a_is_round,
    a_law := fa, d_law := _, F_law := fun_mk (st := s_law) l_law c_law k_law, g_law := PySem.W.mg_of X G a_law,
    n_abs := PySem.W.mg_none_of X G z_abs,
    n_bool := PySem.W.mg_none_of X G z_bool,
    n_int := PySem.W.mg_none_of X G z_int,
    n_isinstance := PySem.W.mg_none_of X G z_isinstance,
    n_len := PySem.W.mg_none_of X G z_len,
    n_list := PySem.W.mg_none_of X G z_list,
    n_range := PySem.W.mg_none_of X G z_range,
    n_repr := PySem.W.mg_none_of X G z_repr,
    n_str := PySem.W.mg_none_of X G z_str,
    n_sum := PySem.W.mg_none_of X G z_sum,
    n_tuple := PySem.W.mg_none_of X G z_tuple,
    n_zip := PySem.W.mg_none_of X G z_zip }
  exact ⟨T.d_law, fun s v => .of_eq rfl, fun base _ _ => ok_law T⟩
end G69
open PySem PySem.W PyProof.Rows
set_option maxHeartbeats 0 in
theorem PySem.Challenge.cw_leastmakers_k69_rounds_and_reads_holds : PySem.Challenge.rw_leastmakers_k69_rounds_and_reads.Holds := by
  w_on; o_law; k_head; (case hw => w_witness2)
  k_fill
  refine G1.walkG (l := PySem.Challenge.rw_leastmakers_k69_rounds_and_reads) (n := 63) (k := 5) (x := "_law_script") (sp := fun K => G69.spLaw K) rfl (by decide) rfl ⟨rfl, by decide, by decide⟩ (fun w h Y => PySem.W.kIn_of Y) ?F (fun K H a ns hl _ hS => ⟨a, ns, rfl, hS, hl, fun _ => rfl⟩)
  case F =>
    intro w mg fa h KX G hmg
    refine' G69.all_mk KX G hmg ?a_sum_ahead ?l_sum_ahead ?c_sum_ahead ?k_sum_ahead ?a_least ?l_least ?c_least ?k_least ?a_table_of ?l_table_of ?c_table_of ?k_table_of ?a_shortest ?l_shortest ?c_shortest ?k_shortest ?a_alike ?l_alike ?c_alike ?k_alike ?a_values ?l_values ?c_values ?k_values ?a_round_of ?l_round_of ?c_round_of ?k_round_of ?a_reads ?l_reads ?c_reads ?k_reads ?a_deck ?l_deck ?c_deck ?k_deck ?a_draw ?l_draw ?c_draw ?k_draw ?a_pick ?l_pick ?c_pick ?k_pick ?a_whole ?l_whole ?c_whole ?k_whole ?a_rule ?l_rule ?c_rule ?k_rule ?a_row ?l_row ?c_row ?k_row ?a_lleast ?l_lleast ?c_lleast ?k_lleast ?a_is_round ?l_is_round ?c_is_round ?k_is_round ?a_law ?l_law ?c_law ?k_law ?z_abs ?z_bool ?z_int ?z_isinstance ?z_len ?z_list ?z_range ?z_repr ?z_str ?z_sum ?z_tuple ?z_zip
    (case a_sum_ahead => k_is); (case l_sum_ahead => k_is); (case c_sum_ahead => k_is); (case k_sum_ahead => k_is); (case a_least => k_is); (case l_least => k_is)
    (case c_least => k_is); (case k_least => k_is); (case a_table_of => k_is); (case l_table_of => k_is); (case c_table_of => k_is); (case k_table_of => k_is)
    (case a_shortest => k_is); (case l_shortest => k_is); (case c_shortest => k_is); (case k_shortest => k_is); (case a_alike => k_is); (case l_alike => k_is)
    (case c_alike => k_is); (case k_alike => k_is); (case a_values => k_is); (case l_values => k_is); (case c_values => k_is); (case k_values => k_is)
    (case a_round_of => k_is); (case l_round_of => k_is); (case c_round_of => k_is); (case k_round_of => k_is); (case a_reads => k_is); (case l_reads => k_is)
    (case c_reads => k_is); (case k_reads => k_is); (case a_deck => k_is); (case l_deck => k_is); (case c_deck => k_is); (case k_deck => k_is)
    (case a_draw => k_is); (case l_draw => k_is); (case c_draw => k_is); (case k_draw => k_is); (case a_pick => k_is); (case l_pick => k_is)
    (case c_pick => k_is); (case k_pick => k_is); (case a_whole => k_is); (case l_whole => k_is); (case c_whole => k_is); (case k_whole => k_is)
    (case a_rule => k_is); (case l_rule => k_is); (case c_rule => k_is); (case k_rule => k_is); (case a_row => k_is); (case l_row => k_is)
    (case c_row => k_is); (case k_row => k_is); (case a_lleast => k_is); (case l_lleast => k_is); (case c_lleast => k_is); (case k_lleast => k_is)
    (case a_is_round => k_is); (case l_is_round => k_is); (case c_is_round => k_is); (case k_is_round => k_is); (case a_law => k_is); (case l_law => k_is)
    (case c_law => k_is); (case k_law => k_is); (case z_abs => k_is); (case z_bool => k_is); (case z_int => k_is); (case z_isinstance => k_is)
    (case z_len => k_is); (case z_list => k_is); (case z_range => k_is); (case z_repr => k_is); (case z_str => k_is); (case z_sum => k_is)
    (case z_tuple => k_is); (case z_zip => k_is)
