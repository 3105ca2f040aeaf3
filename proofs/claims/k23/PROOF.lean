import PyProof.Rows.All
import Wide.All
import OpenK.AllK
import Wide.FinOn
import HandS.ForMost
import HandS.ForExc
import HandS.Zip
import HandS.IsInst
import HandS.SortInts
import HandS.Lambda
import HandS.HeadHook4
import KE.GoesNew
import KE.GoesMore
import KE.GoesEnum
import KE.GoesZip
import HandS.NoneIn
import HandS.Style
import HandS.TupAny
import HandS.TupLe
import KE.KTupSum
import KE.KDictPairs
import HandS.More
import HandS.Defaults
import HandS.ExcInit
import HandS.ExcIs
import KE.KExcInit
import KE.KTryMore
import KE.KExcIs
import HandS.ExcField
import KE.DataFind
import HandS.Conv
import KE.KStateDown
import HandS.Head0
import HandS.Head1
import HandS.Head2
import HandS.HeadEnd
import HandS.HeadHook1
import HandS.HeadHook2
import HandS.ExcOwn
import PyProof.ReprRoads
import HandS.EndBits
import HandS.Star
import HandS.Deep
import HandS.Rev
import HandS.HeadHook3
import PyProof.ReprLen
import HandS.Small
import HandS.WordsDict
import KE.KDictZip
import KE.SortKeyHeap
import KE.DataMinKey
import HandS.Nested
import HandS.AnyAll
import HandS.Flow
import HandS.RevRange
import HandS.DictComp
import KE.SortData
import KE.KDictKeyed
import KE.KDictWalk
import PyProof.Rows.RuleIs
import KE.KDictDisplayH
import HandS.TupLen
import KE.KDictCopyH
import KE.KDictSum
import HandS.SetFor
import HandS.Strs
import PySem.Challenge.RW_passyards_k23_reversed_pairs
set_option Elab.async false
set_option linter.all false
set_option maxRecDepth 100000
section
namespace Dl
open PySem PySem.Spec PyProof.Rows L2
/-- what is known of a value at hand: data that stands still; a list of one's own; one whose items are own, too; the box of draws; another name of slot i; nothing; a thing told by a word -/
inductive O where
  | fz (d : PyData)
  | own (ds : List PyData)
  | ol (os : List O)
  | box (p : Addr) (n : Nat)
  | al (i : Nat)
  | any
  | dct (xs : List (PyData × PyData))
  | ob (φ : Hp → Hp → V → List Addr → Prop)
/-- a dict's key as data -/
def keyD : Key → PyData
  | .inl i => .int i
  | .inr x => .str x
mutual
inductive Dq (K : PySem.W.Frag) (H : Hp) : V → PyData → Prop
  | non : Dq K H .non .none
  | bl (b : Bool) : Dq K H (.bl b) (.bool b)
  | int (i : Int) : Dq K H (.int i) (.int i)
  | str (x : Str) : Dq K H (.str x) (.str x)
  | lst {a : Addr} {vs : List V} {ds : List PyData} : H a = some (.lst vs) → DqAll K H vs ds → Dq K H (.ref a) (.list ds)
  | tup {a : Addr} {vs : List V} {ds : List PyData} : SqT K H a vs → DqAll K H vs ds → Dq K H (.ref a) (.tuple ds)
  | dct {a : Addr} {kvs : List (Key × V)} {xs : List (PyData × PyData)} : H a = some (.dK kvs) → DqKv K H kvs xs → Dq K H (.ref a) (.dict xs)
inductive DqAll (K : PySem.W.Frag) (H : Hp) : List V → List PyData → Prop
  | nil : DqAll K H [] []
  | cons {v : V} {vs : List V} {d : PyData} {ds : List PyData} : Dq K H v d → DqAll K H vs ds → DqAll K H (v :: vs) (d :: ds)
inductive DqKv (K : PySem.W.Frag) (H : Hp) : List (Key × V) → List (PyData × PyData) → Prop
  | nil : DqKv K H [] []
  | cons {k : Key} {v : V} {kvs : List (Key × V)} {d : PyData} {xs : List (PyData × PyData)} : Dq K H v d → DqKv K H kvs xs → DqKv K H ((k, v) :: kvs) ((keyD k, d) :: xs)
end
mutual
/-- no dict in it -/
def noDc : PyData → Bool
  | .dict _ => false
  | .list ds => noDcs ds
  | .tuple ds => noDcs ds
  | _ => true
def noDcs : List PyData → Bool
  | [] => true
  | d :: ds => noDc d && noDcs ds
end
mutual
theorem noDc_lay : ∀ d : PyData, d.canLay0 = true → noDc d = true
  | .none, _ => rfl
  | .bool _, _ => rfl
  | .int _, _ => rfl
  | .str _, _ => rfl
  | .list ds, h => noDcs_lay ds h
  | .tuple ds, h => noDcs_lay ds h
  | .dict _, h => by cases h
theorem noDcs_lay : ∀ ds : List PyData, PyData.canLayAll0 ds = true → noDcs ds = true
  | [], _ => rfl
  | d :: ds, h => by
    have h : (d.canLay0 && PyData.canLayAll0 ds) = true := h
    obtain ⟨h1, h2⟩ := Bool.and_eq_true_iff.mp h
    exact Bool.and_eq_true_iff.mpr ⟨noDc_lay d h1, noDcs_lay ds h2⟩
end
mutual
theorem noDc_has : ∀ d : PyData, d.hasDict = false → noDc d = true
  | .none, _ => rfl
  | .bool _, _ => rfl
  | .int _, _ => rfl
  | .str _, _ => rfl
  | .list ds, h => noDcs_has ds h
  | .tuple ds, h => noDcs_has ds h
  | .dict _, h => by cases h
theorem noDcs_has : ∀ ds : List PyData, PyData.hasDictAll ds = false → noDcs ds = true
  | [], _ => rfl
  | d :: ds, h => by
    have h : (d.hasDict || PyData.hasDictAll ds) = false := h
    obtain ⟨h1, h2⟩ := Bool.or_eq_false_iff.mp h
    exact Bool.and_eq_true_iff.mpr ⟨noDc_has d h1, noDcs_has ds h2⟩
end
theorem noDc_sh {d : PyData} (h : SeqAt.shaped d = true) : noDc d = true := noDc_lay d (Bool.and_eq_true_iff.mp h).1
mutual
theorem dq_dp {K : PySem.W.Frag} {H : Hp} : ∀ (d : PyData) (v : V), noDc d = true → Dq K H v d → Dp K H v d
  | .none, _, _, h => by cases h; exact .non
  | .bool b, _, _, h => by cases h; exact .bl b
  | .int i, _, _, h => by cases h; exact .int i
  | .str x, _, _, h => by cases h; exact .str x
  | .list ds, _, q, h => by
    cases h with
    | lst hs ha => exact .lst (.of hs) (dqAll_dp ds _ q ha)
  | .tuple ds, _, q, h => by
    cases h with
    | tup hs ha => exact .tup hs (dqAll_dp ds _ q ha)
  | .dict _, _, q, h => by cases q
theorem dqAll_dp {K : PySem.W.Frag} {H : Hp} : ∀ (ds : List PyData) (vs : List V), noDcs ds = true → DqAll K H vs ds → DpAll K H vs ds
  | [], _, _, h => by cases h; exact .nil
  | d :: ds, _, q, h => by
    obtain ⟨q1, q2⟩ := Bool.and_eq_true_iff.mp (show (noDc d && noDcs ds) = true from q)
    cases h with
    | cons h1 h2 => exact .cons (dq_dp d _ q1 h1) (dqAll_dp ds _ q2 h2)
end
structure Stab (φ : Hp → Hp → V → List Addr → Prop) : Prop where
  keep : ∀ {G G' H H' : Hp} {v : V} {fp : List Addr}, φ G H v fp → Same G G' → (∀ a ∈ fp, H' a = H a) → φ G' H' v fp
  has : ∀ {G H : Hp} {v : V} {fp : List Addr}, φ G H v fp → ∀ a ∈ fp, ∃ o, H a = some o
mutual
def dn (K : PySem.W.Frag) (G H : Hp) : O → V → List Addr → Prop
  | .fz d, v, fp => Dq K G v d ∧ fp = []
  | .own ds, v, fp => ∃ p vs, v = .ref p ∧ fp = [p] ∧ H p = some (.lst vs) ∧ DqAll K G vs ds
  | .ol os, v, fp => ∃ p vs fq, v = .ref p ∧ fp = p :: fq ∧ H p = some (.lst vs) ∧ dnAll K G H os vs fq
  | .box p n, v, fp => ∃ (a b c : Int), v = .ref p ∧ fp = [p] ∧ H p = some (.lst [.int a, .int b, .int c]) ∧ 0 ≤ a ∧ 0 ≤ b ∧ b < 2 ^ 62 ∧ 0 ≤ c ∧ c ≤ (n : Int)
  | .al _, _, fp => fp = []
  | .any, _, fp => fp = []
  | .dct xs, v, fp => ∃ p kvs, v = .ref p ∧ fp = [p] ∧ H p = some (.dK kvs) ∧ DqKv K G kvs xs
  | .ob φ, v, fp => φ G H v fp ∧ Stab φ
def dnAll (K : PySem.W.Frag) (G H : Hp) : List O → List V → List Addr → Prop
  | [], vs, fp => vs = [] ∧ fp = []
  | o :: os, vs, fp => ∃ v vr f g, vs = v :: vr ∧ fp = f ++ g ∧ dn K G H o v f ∧ dnAll K G H os vr g
end
theorem same_tup {K : PySem.W.Frag} {H H' : Hp} {a : Addr} {xs : List V} (e : Same H H') (h : SqT K H a xs) : SqT K H' a xs := by
  rcases h with (h | ⟨o, h⟩) | h
  · exact Or.inl (Or.inl (e _ _ h))
  · exact Or.inl (Or.inr ⟨o, e _ _ h⟩)
  · exact Or.inr h
mutual
theorem dp_mono {K : PySem.W.Frag} {G G' : Hp} (e : Same G G') : ∀ (d : PyData) (v : V), Dq K G v d → Dq K G' v d
  | .none, _, h => by cases h; exact .non
  | .bool b, _, h => by cases h; exact .bl b
  | .int i, _, h => by cases h; exact .int i
  | .str x, _, h => by cases h; exact .str x
  | .list ds, _, h => by
    cases h with
    | lst hs ha => exact .lst (e _ _ hs) (dpAll_mono e ds _ ha)
  | .tuple ds, _, h => by
    cases h with
    | tup hs ha => exact .tup (same_tup e hs) (dpAll_mono e ds _ ha)
  | .dict xs, _, h => by
    cases h with
    | dct hs ha => exact .dct (e _ _ hs) (dpKv_mono e xs _ ha)
theorem dpAll_mono {K : PySem.W.Frag} {G G' : Hp} (e : Same G G') : ∀ (ds : List PyData) (vs : List V), DqAll K G vs ds → DqAll K G' vs ds
  | [], _, h => by cases h; exact .nil
  | d :: ds, _, h => by
    cases h with
    | cons h1 h2 => exact .cons (dp_mono e d _ h1) (dpAll_mono e ds _ h2)
theorem dpKv_mono {K : PySem.W.Frag} {G G' : Hp} (e : Same G G') : ∀ (xs : List (PyData × PyData)) (kvs : List (Key × V)), DqKv K G kvs xs → DqKv K G' kvs xs
  | [], _, h => by cases h; exact .nil
  | (_, d) :: xs, _, h => by
    cases h with
    | cons h1 h2 => exact .cons (dp_mono e d _ h1) (dpKv_mono e xs _ h2)
end
theorem dpAll_len {K : PySem.W.Frag} {G : Hp} : ∀ {ds : List PyData} {vs : List V}, DqAll K G vs ds → vs.length = ds.length
  | [], _, h => by cases h; rfl
  | d :: ds, _, h => by
    cases h with
    | cons h1 h2 => rw [List.length_cons, List.length_cons, dpAll_len h2]
theorem dpAll_get {K : PySem.W.Frag} {G : Hp} : ∀ {ds : List PyData} {vs : List V} {i : Nat} {d : PyData}, DqAll K G vs ds → ds[i]? = some d → ∃ v, vs[i]? = some v ∧ Dq K G v d
  | [], _, _, _, h, e => by simp at e
  | d :: ds, _, 0, _, h, e => by
    cases h with
    | cons h1 h2 => simp at e; subst e; exact ⟨_, rfl, h1⟩
  | d :: ds, _, i + 1, _, h, e => by
    cases h with
    | cons h1 h2 =>
      obtain ⟨v, e1, e2⟩ := dpAll_get (i := i) h2 (by simpa using e)
      exact ⟨v, by simpa using e1, e2⟩
theorem dpAll_app {K : PySem.W.Frag} {G : Hp} : ∀ {ds es : List PyData} {vs us : List V}, DqAll K G vs ds → DqAll K G us es → DqAll K G (vs ++ us) (ds ++ es)
  | [], _, _, _, h, k => by cases h; exact k
  | d :: ds, _, _, _, h, k => by
    cases h with
    | cons h1 h2 => exact .cons h1 (dpAll_app h2 k)
theorem dpAll_take {K : PySem.W.Frag} {G : Hp} : ∀ {ds : List PyData} {vs : List V} (n : Nat), DqAll K G vs ds → DqAll K G (vs.take n) (ds.take n)
  | _, _, 0, h => by simp; exact .nil
  | [], _, n + 1, h => by cases h; simp; exact .nil
  | d :: ds, _, n + 1, h => by
    cases h with
    | cons h1 h2 => simp; exact .cons h1 (dpAll_take n h2)
theorem dpAll_drop {K : PySem.W.Frag} {G : Hp} : ∀ {ds : List PyData} {vs : List V} (n : Nat), DqAll K G vs ds → DqAll K G (vs.drop n) (ds.drop n)
  | _, _, 0, h => by simpa using h
  | [], _, n + 1, h => by cases h; simp; exact .nil
  | d :: ds, _, n + 1, h => by
    cases h with
    | cons h1 h2 => simp; exact dpAll_drop n h2
theorem dpAll_set {K : PySem.W.Frag} {G : Hp} {v : V} {d : PyData} (hv : Dq K G v d) : ∀ {ds : List PyData} {vs : List V} (i : Nat), DqAll K G vs ds → DqAll K G (vs.set i v) (ds.set i d)
  | [], _, _, h => by cases h; simp; exact .nil
  | e :: ds, _, 0, h => by
    cases h with
    | cons h1 h2 => simp; exact .cons hv h2
  | e :: ds, _, i + 1, h => by
    cases h with
    | cons h1 h2 => simp; exact .cons h1 (dpAll_set hv i h2)
theorem dpAll_erase {K : PySem.W.Frag} {G : Hp} : ∀ {ds : List PyData} {vs : List V} (i : Nat), DqAll K G vs ds → DqAll K G (vs.eraseIdx i) (ds.eraseIdx i)
  | [], _, _, h => by cases h; simp; exact .nil
  | e :: ds, _, 0, h => by
    cases h with
    | cons h1 h2 => simpa using h2
  | e :: ds, _, i + 1, h => by
    cases h with
    | cons h1 h2 => simp; exact .cons h1 (dpAll_erase i h2)
theorem dpAll_ints_inv {K : PySem.W.Frag} {G : Hp} : ∀ {ns : List Int} {vs : List V}, DqAll K G vs (ns.map PyData.int) → vs = ns.map V.int
  | [], _, h => by cases h; rfl
  | n :: ns, _, h => by
    cases h with
    | cons h1 h2 => cases h1; rw [dpAll_ints_inv h2]; rfl
mutual
theorem dn_keep {K : PySem.W.Frag} {G G' H H' : Hp} (e : Same G G') : ∀ (o : O) (v : V) (fp : List Addr), dn K G H o v fp → (∀ a ∈ fp, H' a = H a) → dn K G' H' o v fp
  | .fz d, v, fp, h, k => by
    unfold dn at h ⊢
    exact ⟨dp_mono e d v h.1, h.2⟩
  | .own ds, v, fp, h, k => by
    unfold dn at h ⊢
    obtain ⟨p, vs, rfl, rfl, h1, h2⟩ := h
    exact ⟨p, vs, rfl, rfl, (k p (by simp)).trans h1, dpAll_mono e ds vs h2⟩
  | .ol os, v, fp, h, k => by
    unfold dn at h ⊢
    obtain ⟨p, vs, fq, rfl, rfl, h1, h2⟩ := h
    exact ⟨p, vs, fq, rfl, rfl, (k p (by simp)).trans h1, dnAll_keep e os vs fq h2 fun a ha => k a (by simp [ha])⟩
  | .box p n, v, fp, h, k => by
    unfold dn at h ⊢
    obtain ⟨a, b, c, rfl, rfl, h1, h2⟩ := h
    exact ⟨a, b, c, rfl, rfl, (k p (by simp)).trans h1, h2⟩
  | .al _, v, fp, h, k => by
    unfold dn at h ⊢
    exact h
  | .any, v, fp, h, k => by
    unfold dn at h ⊢
    exact h
  | .dct xs, v, fp, h, k => by
    unfold dn at h ⊢
    obtain ⟨p, kvs, rfl, rfl, h1, h2⟩ := h
    exact ⟨p, kvs, rfl, rfl, (k p (by simp)).trans h1, dpKv_mono e xs kvs h2⟩
  | .ob φ, v, fp, h, k => by
    unfold dn at h ⊢
    exact ⟨h.2.keep h.1 e k, h.2⟩
theorem dnAll_keep {K : PySem.W.Frag} {G G' H H' : Hp} (e : Same G G') : ∀ (os : List O) (vs : List V) (fp : List Addr), dnAll K G H os vs fp → (∀ a ∈ fp, H' a = H a) → dnAll K G' H' os vs fp
  | [], vs, fp, h, k => by
    unfold dnAll at h ⊢
    exact h
  | o :: os, vs, fp, h, k => by
    unfold dnAll at h ⊢
    obtain ⟨v, vr, f, g, rfl, rfl, h1, h2⟩ := h
    exact ⟨v, vr, f, g, rfl, rfl, dn_keep e o v f h1 fun a ha => k a (by simp [ha]), dnAll_keep e os vr g h2 fun a ha => k a (by simp [ha])⟩
end
mutual
theorem dn_has {K : PySem.W.Frag} {G H : Hp} : ∀ (o : O) (v : V) (fp : List Addr), dn K G H o v fp → ∀ a ∈ fp, ∃ u, H a = some u
  | .fz d, v, fp, h, a, ha => by
    unfold dn at h
    rw [h.2] at ha
    simp at ha
  | .own ds, v, fp, h, a, ha => by
    unfold dn at h
    obtain ⟨p, vs, rfl, rfl, h1, h2⟩ := h
    simp at ha
    subst ha
    exact ⟨_, h1⟩
  | .ol os, v, fp, h, a, ha => by
    unfold dn at h
    obtain ⟨p, vs, fq, rfl, rfl, h1, h2⟩ := h
    rcases List.mem_cons.mp ha with rfl | ha
    · exact ⟨_, h1⟩
    · exact dnAll_has os vs fq h2 a ha
  | .box p n, v, fp, h, a, ha => by
    unfold dn at h
    obtain ⟨x, b, c, rfl, rfl, h1, h2⟩ := h
    simp at ha
    subst ha
    exact ⟨_, h1⟩
  | .al _, v, fp, h, a, ha => by
    unfold dn at h
    rw [h] at ha
    simp at ha
  | .any, v, fp, h, a, ha => by
    unfold dn at h
    rw [h] at ha
    simp at ha
  | .dct xs, v, fp, h, a, ha => by
    unfold dn at h
    obtain ⟨p, kvs, rfl, rfl, h1, h2⟩ := h
    simp at ha
    subst ha
    exact ⟨_, h1⟩
  | .ob φ, v, fp, h, a, ha => by
    unfold dn at h
    exact h.2.has h.1 a ha
theorem dnAll_has {K : PySem.W.Frag} {G H : Hp} : ∀ (os : List O) (vs : List V) (fp : List Addr), dnAll K G H os vs fp → ∀ a ∈ fp, ∃ u, H a = some u
  | [], vs, fp, h, a, ha => by
    unfold dnAll at h
    rw [h.2] at ha
    simp at ha
  | o :: os, vs, fp, h, a, ha => by
    unfold dnAll at h
    obtain ⟨v, vr, f, g, rfl, rfl, h1, h2⟩ := h
    rcases List.mem_append.mp ha with ha | ha
    · exact dn_has o v f h1 a ha
    · exact dnAll_has os vr g h2 a ha
end
mutual
/-- the data that is seen -/
def see : O → Option PyData
  | .fz d => some d
  | .own ds => some (.list ds)
  | .ol os => (seeAll os).map .list
  | .dct xs => some (.dict xs)
  | _ => none
def seeAll : List O → Option (List PyData)
  | [] => some []
  | o :: os => match see o, seeAll os with
    | some d, some ds => some (d :: ds)
    | _, _ => none
end
mutual
theorem dn_see {K : PySem.W.Frag} {G H : Hp} (e : Same G H) : ∀ (o : O) (v : V) (fp : List Addr) (d : PyData), dn K G H o v fp → see o = some d → Dq K H v d
  | .fz d, v, fp, d', h, k => by
    unfold dn at h
    unfold see at k
    cases k
    exact dp_mono e d v h.1
  | .own ds, v, fp, d', h, k => by
    unfold dn at h
    unfold see at k
    cases k
    obtain ⟨p, vs, rfl, rfl, h1, h2⟩ := h
    exact .lst h1 (dpAll_mono e ds vs h2)
  | .ol os, v, fp, d', h, k => by
    unfold dn at h
    unfold see at k
    obtain ⟨p, vs, fq, rfl, rfl, h1, h2⟩ := h
    cases q : seeAll os with
    | none => rw [q] at k; cases k
    | some ds =>
      rw [q] at k
      cases k
      exact .lst h1 (dnAll_see e os vs fq ds h2 q)
  | .box _ n, v, fp, d', h, k => by unfold see at k; cases k
  | .al _, v, fp, d', h, k => by unfold see at k; cases k
  | .any, v, fp, d', h, k => by unfold see at k; cases k
  | .dct xs, v, fp, d', h, k => by
    unfold dn at h
    unfold see at k
    cases k
    obtain ⟨p, kvs, rfl, rfl, h1, h2⟩ := h
    exact .dct h1 (dpKv_mono e xs kvs h2)
  | .ob φ, v, fp, d', h, k => by unfold see at k; cases k
theorem dnAll_see {K : PySem.W.Frag} {G H : Hp} (e : Same G H) : ∀ (os : List O) (vs : List V) (fp : List Addr) (ds : List PyData), dnAll K G H os vs fp → seeAll os = some ds → DqAll K H vs ds
  | [], vs, fp, ds, h, k => by
    unfold dnAll at h
    unfold seeAll at k
    cases k
    rw [h.1]
    exact .nil
  | o :: os, vs, fp, ds, h, k => by
    unfold dnAll at h
    unfold seeAll at k
    obtain ⟨v, vr, f, g, rfl, rfl, h1, h2⟩ := h
    cases q1 : see o with
    | none => rw [q1] at k; cases k
    | some d =>
      cases q2 : seeAll os with
      | none => rw [q1, q2] at k; cases k
      | some dr =>
        rw [q1, q2] at k
        cases k
        exact .cons (dn_see e o v f d h1 q1) (dnAll_see e os vr g dr h2 q2)
end
theorem same_upd {G : Hp} {p : Addr} {o : HO} (h : G p = none) : Same G (upd G p o) := fun b x e => by
  rw [upd_ne (ne_of_none e h)]
  exact e
theorem upd_same_of {G H : Hp} {p : Addr} {o : HO} (e : Same G H) (h : H p = some o) : Same (upd G p o) H := fun b x k => by
  by_cases q : b = p
  · subst q
    rw [upd_same] at k
    rw [← k]
    exact h
  · rw [upd_ne q] at k
    exact e b x k
mutual
theorem dn_freeze {K : PySem.W.Frag} {H : Hp} : ∀ (o : O) (G : Hp) (v : V) (fp : List Addr) (d : PyData), dn K G H o v fp → see o = some d → Same G H → (∀ a ∈ fp, G a = none) → fp.Nodup →
    ∃ G', Same G G' ∧ Same G' H ∧ Dq K G' v d ∧ ∀ a, a ∉ fp → G' a = G a
  | .fz d, G, v, fp, d', h, k, e, hn, nd => by
    unfold dn at h
    unfold see at k
    cases k
    exact ⟨G, Same.refl G, e, h.1, fun a _ => rfl⟩
  | .own ds, G, v, fp, d', h, k, e, hn, nd => by
    unfold dn at h
    unfold see at k
    cases k
    obtain ⟨p, vs, rfl, rfl, h1, h2⟩ := h
    have s1 : Same G (upd G p (.lst vs)) := same_upd (hn p (by simp))
    exact ⟨upd G p (.lst vs), s1, upd_same_of e h1, .lst upd_same (dpAll_mono s1 ds vs h2), fun a ha => upd_ne (by simpa using ha)⟩
  | .ol os, G, v, fp, d', h, k, e, hn, nd => by
    unfold dn at h
    unfold see at k
    obtain ⟨p, vs, fq, rfl, rfl, h1, h2⟩ := h
    cases q : seeAll os with
    | none => rw [q] at k; cases k
    | some ds =>
      rw [q] at k
      cases k
      obtain ⟨G1, a1, a2, a3, a4⟩ := dnAll_freeze os G vs fq ds h2 q e (fun a ha => hn a (by simp [ha])) (List.nodup_cons.mp nd).2
      have hp : G1 p = none := (a4 p (List.nodup_cons.mp nd).1).trans (hn p (by simp))
      have s1 : Same G1 (upd G1 p (.lst vs)) := same_upd hp
      refine ⟨upd G1 p (.lst vs), a1.trans s1, upd_same_of a2 h1, .lst upd_same (dpAll_mono s1 ds vs a3), fun a ha => ?_⟩
      have hap : a ≠ p := fun z => ha (by simp [z])
      rw [upd_ne hap]
      exact a4 a fun z => ha (by simp [z])
  | .box _ n, G, v, fp, d', h, k, e, hn, nd => by unfold see at k; cases k
  | .al _, G, v, fp, d', h, k, e, hn, nd => by unfold see at k; cases k
  | .any, G, v, fp, d', h, k, e, hn, nd => by unfold see at k; cases k
  | .dct xs, G, v, fp, d', h, k, e, hn, nd => by
    unfold dn at h
    unfold see at k
    cases k
    obtain ⟨p, kvs, rfl, rfl, h1, h2⟩ := h
    have s1 : Same G (upd G p (.dK kvs)) := same_upd (hn p (by simp))
    exact ⟨upd G p (.dK kvs), s1, upd_same_of e h1, .dct upd_same (dpKv_mono s1 xs kvs h2), fun a ha => upd_ne (by simpa using ha)⟩
  | .ob φ, G, v, fp, d', h, k, e, hn, nd => by unfold see at k; cases k
theorem dnAll_freeze {K : PySem.W.Frag} {H : Hp} : ∀ (os : List O) (G : Hp) (vs : List V) (fp : List Addr) (ds : List PyData), dnAll K G H os vs fp → seeAll os = some ds → Same G H → (∀ a ∈ fp, G a = none) → fp.Nodup →
    ∃ G', Same G G' ∧ Same G' H ∧ DqAll K G' vs ds ∧ ∀ a, a ∉ fp → G' a = G a
  | [], G, vs, fp, ds, h, k, e, hn, nd => by
    unfold dnAll at h
    unfold seeAll at k
    cases k
    rw [h.1]
    exact ⟨G, Same.refl G, e, .nil, fun a _ => rfl⟩
  | o :: os, G, vs, fp, ds, h, k, e, hn, nd => by
    unfold dnAll at h
    unfold seeAll at k
    obtain ⟨v, vr, f, g, rfl, rfl, h1, h2⟩ := h
    cases q1 : see o with
    | none => rw [q1] at k; cases k
    | some d =>
      cases q2 : seeAll os with
      | none => rw [q1, q2] at k; cases k
      | some dr =>
        rw [q1, q2] at k
        cases k
        obtain ⟨nf, ng, dj⟩ := List.nodup_append.mp nd
        obtain ⟨G1, a1, a2, a3, a4⟩ := dn_freeze o G v f d h1 q1 e (fun a ha => hn a (by simp [ha])) nf
        have h2' : dnAll K G1 H os vr g := dnAll_keep a1 os vr g h2 fun a _ => rfl
        have hn' : ∀ a ∈ g, G1 a = none := fun a ha => (a4 a fun z => dj a z a ha rfl).trans (hn a (by simp [ha]))
        obtain ⟨G2, b1, b2, b3, b4⟩ := dnAll_freeze os G1 vr g dr h2' q2 a2 hn' ng
        refine ⟨G2, a1.trans b1, b2, .cons (dp_mono b1 d v a3) b3, fun a ha => ?_⟩
        rw [b4 a fun z => ha (by simp [z]), a4 a fun z => ha (by simp [z])]
end
end Dl
end
section
namespace Dl
open PySem PySem.Spec PyProof.Rows L2
abbrev Ent := List (V × O)
/-- what is at hand: its values with what is known of each; G the part of the heap that stands still -/
def R0 (K : PySem.W.Frag) (G0 H : Hp) (L : Ent) : Prop :=
  ∃ G fp, Same G0 G ∧ Same G H ∧ dnAll K G H (L.map (·.2)) (L.map (·.1)) fp ∧ fp.Nodup ∧ ∀ a ∈ fp, G a = none
section
variable {K : PySem.W.Frag} {G0 G H H' : Hp} {L L' : Ent} {v : V} {o : O} {d : PyData}
theorem dnAll_perm : ∀ {L L' : Ent}, L.Perm L' → ∀ fp, dnAll K G H (L.map (·.2)) (L.map (·.1)) fp → ∃ fp', dnAll K G H (L'.map (·.2)) (L'.map (·.1)) fp' ∧ fp.Perm fp' := by
  intro L L' p
  induction p with
  | nil => exact fun fp h => ⟨fp, h, .refl _⟩
  | cons x p ih =>
    intro fp h
    simp only [List.map_cons] at h ⊢
    unfold dnAll at h
    obtain ⟨v, vr, f, g, e, rfl, h1, h2⟩ := h
    cases e
    obtain ⟨g', h3, q⟩ := ih g h2
    refine ⟨f ++ g', ?_, q.append_left f⟩
    unfold dnAll
    exact ⟨_, _, f, g', rfl, rfl, h1, h3⟩
  | swap x y l =>
    intro fp h
    simp only [List.map_cons] at h ⊢
    unfold dnAll at h
    obtain ⟨v, vr, f, g, e, rfl, h1, h2⟩ := h
    cases e
    unfold dnAll at h2
    obtain ⟨v, vr, f', g', e, rfl, h3, h4⟩ := h2
    cases e
    refine ⟨f' ++ (f ++ g'), ?_, ?_⟩
    · unfold dnAll
      refine ⟨_, _, f', f ++ g', rfl, rfl, h3, ?_⟩
      unfold dnAll
      exact ⟨_, _, f, g', rfl, rfl, h1, h4⟩
    · rw [← List.append_assoc, ← List.append_assoc]
      exact (List.perm_append_comm).append_right g'
  | trans p q ih1 ih2 =>
    intro fp h
    obtain ⟨f1, h1, q1⟩ := ih1 fp h
    obtain ⟨f2, h2, q2⟩ := ih2 f1 h1
    exact ⟨f2, h2, q1.trans q2⟩
theorem R0.perm (r : R0 K G0 H L) (p : L.Perm L') : R0 K G0 H L' := by
  obtain ⟨G, fp, s0, s1, h, nd, hn⟩ := r
  obtain ⟨fp', h', q⟩ := dnAll_perm p fp h
  exact ⟨G, fp', s0, s1, h', q.nodup_iff.mp nd, fun a ha => hn a (q.mem_iff.mpr ha)⟩
/-- the first one apart -/
theorem R0.cons_iff : R0 K G0 H ((v, o) :: L) ↔ ∃ G f g, Same G0 G ∧ Same G H ∧ dn K G H o v f ∧ dnAll K G H (L.map (·.2)) (L.map (·.1)) g ∧ (f ++ g).Nodup ∧ ∀ a ∈ f ++ g, G a = none := by
  constructor
  · rintro ⟨G, fp, s0, s1, h, nd, hn⟩
    simp only [List.map_cons] at h
    unfold dnAll at h
    obtain ⟨_, _, f, g, e, rfl, h1, h2⟩ := h
    cases e
    exact ⟨G, f, g, s0, s1, h1, h2, nd, hn⟩
  · rintro ⟨G, f, g, s0, s1, h1, h2, nd, hn⟩
    refine ⟨G, f ++ g, s0, s1, ?_, nd, hn⟩
    simp only [List.map_cons]
    unfold dnAll
    exact ⟨_, _, f, g, rfl, rfl, h1, h2⟩
theorem R0.tail (r : R0 K G0 H ((v, o) :: L)) : R0 K G0 H L := by
  obtain ⟨G, f, g, s0, s1, h1, h2, nd, hn⟩ := R0.cons_iff.mp r
  exact ⟨G, g, s0, s1, h2, (List.nodup_append.mp nd).2.1, fun a ha => hn a (List.mem_append_right _ ha)⟩
theorem R0.grow (r : R0 K G0 H L) (e : Same H H') : R0 K G0 H' L := by
  obtain ⟨G, fp, s0, s1, h, nd, hn⟩ := r
  refine ⟨G, fp, s0, s1.trans e, dnAll_keep (Same.refl G) _ _ fp h fun a ha => ?_, nd, hn⟩
  obtain ⟨u, q⟩ := dnAll_has _ _ fp h a ha
  rw [q]
  exact e a u q
theorem R0.seen (r : R0 K G0 H ((v, o) :: L)) (h : see o = some d) : Dq K H v d := by
  obtain ⟨G, f, g, s0, s1, h1, h2, nd, hn⟩ := R0.cons_iff.mp r
  exact dn_see s1 o v f d h1 h
theorem R0.copy (r : R0 K G0 H ((v, .fz d) :: L)) : R0 K G0 H ((v, .fz d) :: (v, .fz d) :: L) := by
  obtain ⟨G, f, g, s0, s1, h1, h2, nd, hn⟩ := R0.cons_iff.mp r
  refine R0.cons_iff.mpr ⟨G, f, f ++ g, s0, s1, h1, ?_, ?_, ?_⟩
  · simp only [List.map_cons]
    unfold dnAll
    exact ⟨_, _, f, g, rfl, rfl, h1, h2⟩
  · unfold dn at h1
    rw [h1.2] at nd ⊢
    exact nd
  · unfold dn at h1
    rw [h1.2] at hn ⊢
    exact hn
/-- a frozen one is added that is known in every standing part -/
theorem R0.add (r : R0 K G0 H L) (h : ∀ G, Dq K G v d) : R0 K G0 H ((v, .fz d) :: L) := by
  obtain ⟨G, g, s0, s1, h2, nd, hn⟩ := r
  refine R0.cons_iff.mpr ⟨G, [], g, s0, s1, ?_, h2, nd, hn⟩
  unfold dn
  exact ⟨h G, rfl⟩
theorem R0.addAny (r : R0 K G0 H L) : R0 K G0 H ((v, .any) :: L) := by
  obtain ⟨G, g, s0, s1, h2, nd, hn⟩ := r
  refine R0.cons_iff.mpr ⟨G, [], g, s0, s1, ?_, h2, nd, hn⟩
  unfold dn
  rfl
theorem R0.addAl {i : Nat} (r : R0 K G0 H L) : R0 K G0 H ((v, .al i) :: L) := by
  obtain ⟨G, g, s0, s1, h2, nd, hn⟩ := r
  refine R0.cons_iff.mpr ⟨G, [], g, s0, s1, ?_, h2, nd, hn⟩
  unfold dn
  rfl
/-- what was one's own stands still -/
theorem R0.freeze (r : R0 K G0 H ((v, o) :: L)) (h : see o = some d) : R0 K G0 H ((v, .fz d) :: L) := by
  obtain ⟨G, f, g, s0, s1, h1, h2, nd, hn⟩ := R0.cons_iff.mp r
  obtain ⟨nf, ng, dj⟩ := List.nodup_append.mp nd
  obtain ⟨G1, a1, a2, a3, a4⟩ := dn_freeze o G v f d h1 h s1 (fun a ha => hn a (List.mem_append_left _ ha)) nf
  refine R0.cons_iff.mpr ⟨G1, [], g, s0.trans a1, a2, ?_, dnAll_keep a1 _ _ g h2 fun a _ => rfl, ng, fun a ha => ?_⟩
  · unfold dn
    exact ⟨a3, rfl⟩
  · have ha : a ∈ g := ha
    exact (a4 a fun z => dj a z a ha rfl).trans (hn a (List.mem_append_right _ ha))
/-- several frozen ones apart -/
def fzs : List V → List PyData → Ent
  | v :: vs, d :: ds => (v, .fz d) :: fzs vs ds
  | _, _ => []
theorem R0.fzs_iff : ∀ {vs : List V} {ds : List PyData}, vs.length = ds.length → (R0 K G0 H (fzs vs ds ++ L) ↔ ∃ G g, Same G0 G ∧ Same G H ∧ DqAll K G vs ds ∧ dnAll K G H (L.map (·.2)) (L.map (·.1)) g ∧ g.Nodup ∧ ∀ a ∈ g, G a = none)
  | [], [], _ => by
    show R0 K G0 H L ↔ _
    exact ⟨fun ⟨G, g, s0, s1, h, nd, hn⟩ => ⟨G, g, s0, s1, .nil, h, nd, hn⟩, fun ⟨G, g, s0, s1, _, h, nd, hn⟩ => ⟨G, g, s0, s1, h, nd, hn⟩⟩
  | v :: vs, d :: ds, e => by
    have el : vs.length = ds.length := Nat.succ.inj e
    show R0 K G0 H ((v, .fz d) :: (fzs vs ds ++ L)) ↔ _
    constructor
    · intro r
      obtain ⟨G, f, g, s0, s1, h1, h2, nd, hn⟩ := R0.cons_iff.mp r
      unfold dn at h1
      obtain ⟨h1, rfl⟩ := h1
      exact go h1 el s0 s1 h2 nd hn
    · rintro ⟨G, g, s0, s1, h, hL, nd, hn⟩
      cases h with
      | cons h1 h2 =>
        refine R0.cons_iff.mpr ⟨G, [], g, s0, s1, ?_, back h2 hL, nd, hn⟩
        unfold dn
        exact ⟨h1, rfl⟩
  | [], _ :: _, e => by cases e
  | _ :: _, [], e => by cases e
where
  go {v : V} {d : PyData} {vs : List V} {ds : List PyData} {G : Hp} {g : List Addr} (h1 : Dq K G v d) (el : vs.length = ds.length) (s0 : Same G0 G) (s1 : Same G H) (h2 : dnAll K G H ((fzs vs ds ++ L).map (·.2)) ((fzs vs ds ++ L).map (·.1)) g) (nd : ([] ++ g).Nodup) (hn : ∀ a ∈ [] ++ g, G a = none) :
      ∃ G g, Same G0 G ∧ Same G H ∧ DqAll K G (v :: vs) (d :: ds) ∧ dnAll K G H (L.map (·.2)) (L.map (·.1)) g ∧ g.Nodup ∧ ∀ a ∈ g, G a = none := by
    obtain ⟨h3, h4⟩ := peel el h2
    exact ⟨G, g, s0, s1, .cons h1 h3, h4, nd, hn⟩
  peel {G : Hp} {g : List Addr} : ∀ {vs : List V} {ds : List PyData}, vs.length = ds.length → dnAll K G H ((fzs vs ds ++ L).map (·.2)) ((fzs vs ds ++ L).map (·.1)) g → DqAll K G vs ds ∧ dnAll K G H (L.map (·.2)) (L.map (·.1)) g
    | [], [], _, h => ⟨.nil, h⟩
    | v :: vs, d :: ds, e, h => by
      simp only [fzs, List.cons_append, List.map_cons] at h
      unfold dnAll at h
      obtain ⟨_, _, f, g', q, rfl, h1, h2⟩ := h
      cases q
      unfold dn at h1
      obtain ⟨h1, rfl⟩ := h1
      obtain ⟨h3, h4⟩ := peel (Nat.succ.inj e) h2
      exact ⟨.cons h1 h3, h4⟩
    | [], _ :: _, e, _ => by cases e
    | _ :: _, [], e, _ => by cases e
  back {G : Hp} {g : List Addr} : ∀ {vs : List V} {ds : List PyData}, DqAll K G vs ds → dnAll K G H (L.map (·.2)) (L.map (·.1)) g → dnAll K G H ((fzs vs ds ++ L).map (·.2)) ((fzs vs ds ++ L).map (·.1)) g
    | [], [], _, h => h
    | v :: vs, d :: ds, k, h => by
      cases k with
      | cons k1 k2 =>
        simp only [fzs, List.cons_append, List.map_cons]
        unfold dnAll
        refine ⟨_, _, [], g, rfl, rfl, ?_, back k2 h⟩
        unfold dn
        exact ⟨k1, rfl⟩
    | [], _ :: _, k, _ => by cases k
    | _ :: _, [], k, _ => by cases k
/-- a new tuple of frozen ones -/
theorem R0.tuple {vs : List V} {ds : List PyData} {p : Addr} (r : R0 K G0 H (fzs vs ds ++ L)) (el : vs.length = ds.length) (hp : H p = none) : R0 K G0 (upd H p (.tup vs)) ((.ref p, .fz (.tuple ds)) :: L) := by
  obtain ⟨G, g, s0, s1, a, b, nd, hn⟩ := (R0.fzs_iff el).mp r
  have gp : G p = none := s1.free hp
  have s2 : Same G (upd G p (.tup vs)) := same_upd gp
  have s3 : Same (upd G p (.tup vs)) (upd H p (.tup vs)) := fun b x k => by
    by_cases q : b = p
    · subst q
      rw [upd_same] at k ⊢
      exact k
    · rw [upd_ne q] at k ⊢
      exact s1 b x k
  have hpg : ∀ a ∈ g, a ≠ p := fun a ha z => by
    obtain ⟨u, q⟩ := dnAll_has _ _ g b a ha
    rw [z, hp] at q
    cases q
  refine R0.cons_iff.mpr ⟨upd G p (.tup vs), [], g, s0.trans s2, s3, ?_, dnAll_keep s2 _ _ g b fun a ha => upd_ne (hpg a ha), nd, fun a ha => ?_⟩
  · unfold dn
    exact ⟨.tup (.of upd_same) (dpAll_mono s2 ds vs a), rfl⟩
  · rw [upd_ne (hpg a ha)]
    exact hn a ha
/-- a new list of frozen ones -/
theorem R0.list {vs : List V} {ds : List PyData} {p : Addr} (r : R0 K G0 H (fzs vs ds ++ L)) (el : vs.length = ds.length) (hp : H p = none) : R0 K G0 (upd H p (.lst vs)) ((.ref p, .own ds) :: L) := by
  obtain ⟨G, g, s0, s1, a, b, nd, hn⟩ := (R0.fzs_iff el).mp r
  have gp : G p = none := s1.free hp
  have hpg : ∀ a ∈ g, a ≠ p := fun a ha z => by
    obtain ⟨u, q⟩ := dnAll_has _ _ g b a ha
    rw [z, hp] at q
    cases q
  refine R0.cons_iff.mpr ⟨G, [p], g, s0, s1.trans (same_upd hp), ?_, dnAll_keep (Same.refl G) _ _ g b fun a ha => upd_ne (hpg a ha), ?_, fun a ha => ?_⟩
  · unfold dn
    exact ⟨p, vs, rfl, rfl, upd_same, a⟩
  · exact List.nodup_cons.mpr ⟨fun z => hpg p z rfl, nd⟩
  · rcases List.mem_cons.mp ha with rfl | ha
    · exact gp
    · exact hn a ha
/-- a new list of what is one's own -/
theorem R0.listO {M : Ent} {p : Addr} (r : R0 K G0 H (M ++ L)) (hp : H p = none) : R0 K G0 (upd H p (.lst (M.map (·.1)))) ((.ref p, .ol (M.map (·.2))) :: L) := by
  obtain ⟨G, fp, s0, s1, h, nd, hn⟩ := r
  rw [List.map_append, List.map_append] at h
  obtain ⟨f, g, rfl, h1, h2⟩ := split (by rw [List.length_map, List.length_map]) h
  have gp : G p = none := s1.free hp
  have hpf : ∀ a ∈ f ++ g, a ≠ p := fun a ha z => by
    rcases List.mem_append.mp ha with k | k
    · obtain ⟨u, q⟩ := dnAll_has _ _ f h1 a k
      rw [z, hp] at q
      cases q
    · obtain ⟨u, q⟩ := dnAll_has _ _ g h2 a k
      rw [z, hp] at q
      cases q
  refine R0.cons_iff.mpr ⟨G, p :: f, g, s0, s1.trans (same_upd hp), ?_, dnAll_keep (Same.refl G) _ _ g h2 fun a ha => upd_ne (hpf a (List.mem_append_right _ ha)), ?_, fun a ha => ?_⟩
  · unfold dn
    exact ⟨p, _, f, rfl, rfl, upd_same, dnAll_keep (Same.refl G) _ _ f h1 fun a ha => upd_ne (hpf a (List.mem_append_left _ ha))⟩
  · exact List.nodup_cons.mpr ⟨fun z => hpf p z rfl, nd⟩
  · rcases List.mem_cons.mp ha with rfl | ha
    · exact gp
    · exact hn a ha
where
  split {K : PySem.W.Frag} {G H : Hp} : ∀ {os qs : List O} {vs us : List V} {fp : List Addr}, os.length = vs.length → dnAll K G H (os ++ qs) (vs ++ us) fp → ∃ f g, fp = f ++ g ∧ dnAll K G H os vs f ∧ dnAll K G H qs us g
    | [], qs, [], us, fp, _, h => ⟨[], fp, rfl, by unfold dnAll; exact ⟨rfl, rfl⟩, h⟩
    | o :: os, qs, v :: vs, us, fp, e, h => by
      simp only [List.cons_append] at h
      unfold dnAll at h
      obtain ⟨_, _, f, g, q, rfl, h1, h2⟩ := h
      cases q
      obtain ⟨f1, g1, rfl, h3, h4⟩ := split (Nat.succ.inj e) h2
      refine ⟨f ++ f1, g1, (List.append_assoc _ _ _).symm, ?_, h4⟩
      unfold dnAll
      exact ⟨_, _, f, f1, rfl, rfl, h1, h3⟩
    | [], qs, _ :: _, us, fp, e, h => by cases e
    | _ :: _, qs, [], us, fp, e, h => by cases e
end
/-- a table and its code objects, of the name q -/
def TabO (q : Str) : Hp → Hp → V → List Addr → Prop := fun _ H v fp => ∃ (P : Addr) (ps : Array Value) (cs : List Addr), v = .ref P ∧ fp = P :: cs ∧ H P = some (.tbl ps) ∧ TriplesOk ps.toList ∧
  (∀ (pos : Pos) (cv : Value), codeAmong pos ps.toList = some cv → ∃ c ∈ cs, cv = .ref c) ∧ ∀ c ∈ cs, H c = some (LamX.CodeO c q)
theorem tabO_stab {q : Str} : Stab (TabO q) where
  keep := fun {G G' H H' v fp} ⟨P, ps, cs, e1, e2, e3, e4, e5, e6⟩ _ k => by
    subst e2
    exact ⟨P, ps, cs, e1, rfl, (k P List.mem_cons_self).trans e3, e4, e5, fun c hc => (k c (List.mem_cons_of_mem _ hc)).trans (e6 c hc)⟩
  has := fun {G H v fp} ⟨P, ps, cs, e1, e2, e3, e4, e5, e6⟩ a ha => by
    subst e2
    rcases List.mem_cons.mp ha with rfl | ha
    · exact ⟨_, e3⟩
    · exact ⟨_, e6 a ha⟩
abbrev lamDefs : List (Str × Str) := [("arranged", "arranged.<locals>.<lambda>"), ("row_to", "row_to.<locals>.<lambda>")]
/-- the def x of the program has a code object with a table that K does not know -/
def tabHere (K : PySem.W.Frag) (x : Str) : Bool := PySem.W.codeHdIn K (He.cT K (x, none)).1 (He.cT K (x, none)).2 && (K.lookup (He.cT K (x, none)).2).isNone
def tabL (K : PySem.W.Frag) : List (Str × Str) := lamDefs.filter fun p => tabHere K p.1
/-- the tables as things of one's own -/
@[irreducible] def tabE (K : PySem.W.Frag) : Ent := (tabL K).map fun p => (.ref (He.cT K (p.1, none)).2, .ob (TabO p.2))
/-- what is at hand, the tables behind it -/
def R (K : PySem.W.Frag) (G0 H : Hp) (L : Ent) : Prop := R0 K G0 H (L ++ tabE K)
section
variable {K : PySem.W.Frag} {G0 G H H' : Hp} {L L' : Ent} {v : V} {o : O} {d : PyData}
abbrev tO (K : PySem.W.Frag) (L : Ent) : List O := (L ++ tabE K).map (·.2)
abbrev tV (K : PySem.W.Frag) (L : Ent) : List V := (L ++ tabE K).map (·.1)
theorem R.perm (r : R K G0 H L) (p : L.Perm L') : R K G0 H L' := R0.perm r (p.append_right _)
theorem R.cons_iff : R K G0 H ((v, o) :: L) ↔ ∃ G f g, Same G0 G ∧ Same G H ∧ dn K G H o v f ∧ dnAll K G H (tO K L) (tV K L) g ∧ (f ++ g).Nodup ∧ ∀ a ∈ f ++ g, G a = none := R0.cons_iff (L := L ++ tabE K)
theorem R.tail (r : R K G0 H ((v, o) :: L)) : R K G0 H L := R0.tail (L := L ++ tabE K) r
theorem R.grow (r : R K G0 H L) (e : Same H H') : R K G0 H' L := R0.grow (L := L ++ tabE K) r e
theorem R.seen (r : R K G0 H ((v, o) :: L)) (h : see o = some d) : Dq K H v d := R0.seen (L := L ++ tabE K) r h
theorem R.copy (r : R K G0 H ((v, .fz d) :: L)) : R K G0 H ((v, .fz d) :: (v, .fz d) :: L) := R0.copy (L := L ++ tabE K) r
theorem R.add (r : R K G0 H L) (h : ∀ G, Dq K G v d) : R K G0 H ((v, .fz d) :: L) := R0.add (L := L ++ tabE K) r h
theorem R.addAny (r : R K G0 H L) : R K G0 H ((v, .any) :: L) := R0.addAny (L := L ++ tabE K) r
theorem R.addAl {i : Nat} (r : R K G0 H L) : R K G0 H ((v, .al i) :: L) := R0.addAl (L := L ++ tabE K) r
theorem R.freeze (r : R K G0 H ((v, o) :: L)) (h : see o = some d) : R K G0 H ((v, .fz d) :: L) := R0.freeze (L := L ++ tabE K) r h
theorem R.eq_app {M : Ent} : R K G0 H (M ++ L) = R0 K G0 H (M ++ (L ++ tabE K)) := by
  unfold R
  rw [List.append_assoc]
theorem R.fzs_iff {vs : List V} {ds : List PyData} (e : vs.length = ds.length) : R K G0 H (fzs vs ds ++ L) ↔ ∃ G g, Same G0 G ∧ Same G H ∧ DqAll K G vs ds ∧ dnAll K G H (tO K L) (tV K L) g ∧ g.Nodup ∧ ∀ a ∈ g, G a = none := by
  rw [R.eq_app]
  exact R0.fzs_iff e
theorem R.fzs_iff.peel {G : Hp} {g : List Addr} {vs : List V} {ds : List PyData} (e : vs.length = ds.length) (h : dnAll K G H (tO K (fzs vs ds ++ L)) (tV K (fzs vs ds ++ L)) g) : DqAll K G vs ds ∧ dnAll K G H (tO K L) (tV K L) g := by
  unfold tO tV at h
  rw [List.append_assoc] at h
  exact R0.fzs_iff.peel e h
theorem R.fzs_iff.back {G : Hp} {g : List Addr} {vs : List V} {ds : List PyData} (a : DqAll K G vs ds) (h : dnAll K G H (tO K L) (tV K L) g) : dnAll K G H (tO K (fzs vs ds ++ L)) (tV K (fzs vs ds ++ L)) g := by
  unfold tO tV
  rw [List.append_assoc]
  exact R0.fzs_iff.back a h
theorem R.tuple {vs : List V} {ds : List PyData} {p : Addr} (r : R K G0 H (fzs vs ds ++ L)) (el : vs.length = ds.length) (hp : H p = none) : R K G0 (upd H p (.tup vs)) ((.ref p, .fz (.tuple ds)) :: L) := by
  rw [R.eq_app] at r
  exact R0.tuple r el hp
theorem R.list {vs : List V} {ds : List PyData} {p : Addr} (r : R K G0 H (fzs vs ds ++ L)) (el : vs.length = ds.length) (hp : H p = none) : R K G0 (upd H p (.lst vs)) ((.ref p, .own ds) :: L) := by
  rw [R.eq_app] at r
  exact R0.list r el hp
theorem R.listO {M : Ent} {p : Addr} (r : R K G0 H (M ++ L)) (hp : H p = none) : R K G0 (upd H p (.lst (M.map (·.1)))) ((.ref p, .ol (M.map (·.2))) :: L) := by
  rw [R.eq_app] at r
  exact R0.listO r hp
/-- H off the addresses fT -/
def off (H : Hp) (fT : List Addr) : Hp := fun b => if b ∈ fT then none else H b
theorem off_same {fT : List Addr} : Same (off H fT) H := fun b o e => by
  unfold off at e
  split at e
  · cases e
  · exact e
theorem off_at {fT : List Addr} {b : Addr} (h : b ∉ fT) : off H fT b = H b := if_neg h
/-- what a table's footprint may hold -/
def tabby : HO → Prop
  | .tbl _ => True
  | .ext _ => True
  | _ => False
theorem tabs_off {G H : Hp} {L : List (Str × Str)} {vs : List V} {fT : List Addr} : dnAll K G H (L.map fun p => O.ob (TabO p.2)) vs fT → ∀ a ∈ fT, ∃ o, H a = some o ∧ tabby o := by
  induction L generalizing vs fT with
  | nil =>
    intro h a ha
    have h : dnAll K G H [] vs fT := h
    unfold dnAll at h
    rw [h.2] at ha
    simp at ha
  | cons p L ih =>
    intro h a ha
    have h : dnAll K G H (O.ob (TabO p.2) :: L.map fun p => O.ob (TabO p.2)) vs fT := h
    unfold dnAll at h
    obtain ⟨v, vr, f, g, rfl, rfl, h1, h2⟩ := h
    rcases List.mem_append.mp ha with ha | ha
    · unfold dn at h1
      obtain ⟨⟨P, ps, cs, e1, e2, e3, e4, e5, e6⟩, _⟩ := h1
      subst e2
      rcases List.mem_cons.mp ha with rfl | ha
      · exact ⟨_, e3, trivial⟩
      · exact ⟨_, e6 a ha, trivial⟩
    · exact ih h2 a ha
theorem tabs_any {G G' H : Hp} {L : List (Str × Str)} {vs : List V} {fT : List Addr} : dnAll K G H (L.map fun p => O.ob (TabO p.2)) vs fT → dnAll K G' H (L.map fun p => O.ob (TabO p.2)) vs fT := by
  induction L generalizing vs fT with
  | nil => exact fun h => h
  | cons p L ih =>
    intro h
    have h : dnAll K G H (O.ob (TabO p.2) :: L.map fun p => O.ob (TabO p.2)) vs fT := h
    unfold dnAll at h
    obtain ⟨v, vr, f, g, rfl, rfl, h1, h2⟩ := h
    show dnAll K G' H (O.ob (TabO p.2) :: L.map fun p => O.ob (TabO p.2)) _ _
    unfold dnAll
    refine ⟨v, vr, f, g, rfl, rfl, ?_, ih h2⟩
    unfold dn at h1 ⊢
    exact h1
theorem tabE_O : (tabE K).map (·.2) = (tabL K).map fun p => O.ob (TabO p.2) := by
  unfold tabE
  rw [List.map_map]
  rfl
mutual
theorem dp_off {fT : List Addr} (hT : ∀ a ∈ fT, ∃ o, H a = some o ∧ tabby o) : ∀ (d : PyData) (v : V), Dq K H v d → Dq K (off H fT) v d
  | .none, _, h => by cases h; exact .non
  | .bool b, _, h => by cases h; exact .bl b
  | .int i, _, h => by cases h; exact .int i
  | .str x, _, h => by cases h; exact .str x
  | .list ds, _, h => by
    cases h with
    | @lst a vs _ hs ha => exact .lst ((off_at (no hT hs (fun z => z))).trans hs) (dpAll_off hT ds _ ha)
  | .tuple ds, _, h => by
    cases h with
    | @tup a vs _ hs ha =>
      refine .tup ?_ (dpAll_off hT ds _ ha)
      rcases hs with (h | ⟨o, h⟩) | h
      · exact Or.inl (Or.inl ((off_at (no hT h (fun z => z))).trans h))
      · exact Or.inl (Or.inr ⟨o, (off_at (no hT h (fun z => z))).trans h⟩)
      · exact Or.inr h
  | .dict xs, _, h => by
    cases h with
    | @dct a kvs _ hs ha => exact .dct ((off_at (no hT hs (fun z => z))).trans hs) (dpKv_off hT xs _ ha)
theorem dpAll_off {fT : List Addr} (hT : ∀ a ∈ fT, ∃ o, H a = some o ∧ tabby o) : ∀ (ds : List PyData) (vs : List V), DqAll K H vs ds → DqAll K (off H fT) vs ds
  | [], _, h => by cases h; exact .nil
  | d :: ds, _, h => by
    cases h with
    | cons h1 h2 => exact .cons (dp_off hT d _ h1) (dpAll_off hT ds _ h2)
theorem dpKv_off {fT : List Addr} (hT : ∀ a ∈ fT, ∃ o, H a = some o ∧ tabby o) : ∀ (xs : List (PyData × PyData)) (kvs : List (Key × V)), DqKv K H kvs xs → DqKv K (off H fT) kvs xs
  | [], _, h => by cases h; exact .nil
  | (_, d) :: xs, _, h => by
    cases h with
    | cons h1 h2 => exact .cons (dp_off hT d _ h1) (dpKv_off hT xs _ h2)
theorem no {fT : List Addr} (hT : ∀ a ∈ fT, ∃ o, H a = some o ∧ tabby o) {a : Addr} {o : HO} (h : H a = some o) (n : ¬ tabby o) : a ∉ fT := fun z => by
  obtain ⟨u, e, t⟩ := hT a z
  rw [h] at e
  cases e
  exact n t
end
/-- seen things stand still while a def looks at them: F is what stays one's own -/
theorem R.look {vs : List V} {ds : List PyData} (r : R K G0 H L) (hd : DqAll K H vs ds) : ∃ G1, R K G1 H (fzs vs ds) ∧ ∀ (H' : Hp) (M : Ent), R K G1 H' M → R K G0 H' L ∧ ∀ a, (∃ o, H a = some o ∧ ¬ tabby o) → H' a = H a := by
  obtain ⟨G, fp, s0, s1, h, nd, hn⟩ := r
  rw [List.map_append, List.map_append] at h
  obtain ⟨fL, fT, rfl, h1, h2⟩ := R0.listO.split (by rw [List.length_map, List.length_map]) h
  rw [tabE_O] at h2
  have hT := tabs_off h2
  obtain ⟨n1, n2, n3⟩ := List.nodup_append.mp nd
  have sG : Same G (off H fT) := fun b o e => by
    have nb : b ∉ fT := fun z => by
      have q := hn b (List.mem_append_right _ z)
      rw [e] at q
      cases q
    exact (off_at nb).trans (s1 b o e)
  have hl := dpAll_len hd
  refine ⟨off H fT, ?_, fun H' M r' => ?_⟩
  · have e : R K (off H fT) H (fzs vs ds) = R0 K (off H fT) H (fzs vs ds ++ tabE K) := rfl
    rw [e]
    refine (R0.fzs_iff hl).mpr ⟨off H fT, fT, Same.refl _, off_same, dpAll_off hT ds vs hd, ?_, n2, fun a ha => if_pos ha⟩
    rw [tabE_O]
    exact tabs_any h2
  · obtain ⟨G', fp', s0', s1', h', nd', hn'⟩ := r'
    rw [List.map_append, List.map_append] at h'
    obtain ⟨fM, fU, rfl, h3, h4⟩ := R0.listO.split (by rw [List.length_map, List.length_map]) h'
    rw [tabE_O] at h4
    have sH : Same (off H fT) H' := s0'.trans s1'
    have keep : ∀ a ∈ fL, H' a = H a := fun a ha => by
      obtain ⟨u, q⟩ := dnAll_has _ _ fL h1 a ha
      have na : a ∉ fT := fun z => n3 a ha a z rfl
      rw [q]
      exact sH a u ((off_at na).trans q)
    refine ⟨⟨G, fL ++ fU, s0, sG.trans sH, ?_, ?_, fun a ha => ?_⟩, fun a ⟨o, e, n⟩ => ?_⟩
    · rw [List.map_append, List.map_append]
      refine app (dnAll_keep (Same.refl G) _ _ fL h1 keep) ?_
      rw [tabE_O]
      exact tabs_any h4
    · refine List.nodup_append.mpr ⟨n1, (List.nodup_append.mp nd').2.1, fun a ha b hb z => ?_⟩
      subst z
      obtain ⟨u, q⟩ := dnAll_has _ _ fL h1 a ha
      have na : a ∉ fT := fun z => n3 a ha a z rfl
      have q2 := s0' a u ((off_at na).trans q)
      rw [hn' a (List.mem_append_right _ hb)] at q2
      cases q2
    · rcases List.mem_append.mp ha with ha | ha
      · exact hn a (List.mem_append_left _ ha)
      · have q := hn' a (List.mem_append_right _ ha)
        cases e : G a with
        | none => rfl
        | some u =>
          rw [(sG.trans s0') a u e] at q
          cases q
    · rw [e]
      exact sH a o ((off_at (no (K := K) hT e n)).trans e)
where
  app {K : PySem.W.Frag} {G H : Hp} : ∀ {os ps : List O} {xs zs : List V} {f g : List Addr}, dnAll K G H os xs f → dnAll K G H ps zs g → dnAll K G H (os ++ ps) (xs ++ zs) (f ++ g)
    | [], ps, xs, zs, f, g, h, k => by
      unfold dnAll at h
      obtain ⟨rfl, rfl⟩ := h
      exact k
    | o :: os, ps, xs, zs, f, g, h, k => by
      unfold dnAll at h
      obtain ⟨v, vr, f1, g1, rfl, rfl, h1, h2⟩ := h
      have q := app h2 k
      show dnAll K G H (o :: (os ++ ps)) (v :: (vr ++ zs)) (f1 ++ g1 ++ g)
      unfold dnAll
      exact ⟨v, vr ++ zs, f1, g1 ++ g, rfl, by rw [List.append_assoc], h1, q⟩
end
end Dl
end
section
namespace Dl
open PySem PySem.Spec PyProof.Rows L2
section
variable {K : PySem.W.Frag} {G0 G H H' : Hp} {L L' : Ent} {v : V} {o : O} {d : PyData}
/-- the one's own at p is written anew -/
theorem R.put {p : Addr} {o' : O} {ob : HO} {g : List Addr} (s0 : Same G0 G) (s1 : Same G H) (h2 : dnAll K G H (tO K L) (tV K L) g) (nd : ([p] ++ g).Nodup) (hn : ∀ a ∈ [p] ++ g, G a = none)
    (new : dn K G (upd H p ob) o' (.ref p) [p]) : R K G0 (upd H p ob) ((.ref p, o') :: L) := by
  have gp : G p = none := hn p (by simp)
  have hpg : ∀ a ∈ g, a ≠ p := fun a ha z => (List.nodup_cons.mp nd).1 (z ▸ ha)
  refine R.cons_iff.mpr ⟨G, [p], g, s0, fun b x k => ?_, new, dnAll_keep (Same.refl G) _ _ g h2 fun a ha => upd_ne (hpg a ha), nd, hn⟩
  rw [upd_ne (ne_of_none k gp)]
  exact s1 b x k
theorem R.write {ys : List V} {es ds : List PyData} (r : R K G0 H ((v, .own ds) :: (fzs ys es ++ L))) (el : ys.length = es.length) :
    ∃ p vs, v = .ref p ∧ H p = some (.lst vs) ∧ vs.length = ds.length ∧ ∀ (vs' us : List V) (ds' cs : List PyData), (∀ G, DqAll K G vs ds → DqAll K G ys es → DqAll K G vs' ds' ∧ DqAll K G us cs) →
      us.length = cs.length → R K G0 (upd H p (.lst vs')) ((v, .own ds') :: (fzs us cs ++ (fzs ys es ++ L))) := by
  obtain ⟨G, f, g, s0, s1, h1, h2, nd, hn⟩ := R.cons_iff.mp r
  unfold dn at h1
  obtain ⟨p, vs, rfl, rfl, e1, e2⟩ := h1
  refine ⟨p, vs, rfl, e1, dpAll_len e2, fun vs' us ds' cs k kl => ?_⟩
  obtain ⟨k1, k2⟩ := R.fzs_iff.peel el h2
  obtain ⟨j1, j2⟩ := k G e2 k1
  refine R.put s0 s1 (R.fzs_iff.back j2 h2) nd hn ?_
  unfold dn
  exact ⟨p, vs', rfl, rfl, upd_same, j1⟩
theorem R.draw {p : Addr} {n : Nat} (r : R K G0 H ((v, .box p n) :: L)) :
    v = .ref p ∧ ∃ a b c : Int, H p = some (.lst [.int a, .int b, .int c]) ∧ 0 ≤ a ∧ 0 ≤ b ∧ b < 2 ^ 62 ∧ 0 ≤ c ∧ c ≤ (n : Int) ∧
      ∀ (a' b' c' : Int) (m : Nat), 0 ≤ a' → 0 ≤ b' → b' < 2 ^ 62 → 0 ≤ c' → c' ≤ (m : Int) → R K G0 (upd H p (.lst [.int a', .int b', .int c'])) ((v, .box p m) :: L) := by
  obtain ⟨G, f, g, s0, s1, h1, h2, nd, hn⟩ := R.cons_iff.mp r
  unfold dn at h1
  obtain ⟨a, b, c, rfl, rfl, e1, e2, e3, e4, e5, e6⟩ := h1
  refine ⟨rfl, a, b, c, e1, e2, e3, e4, e5, e6, fun a' b' c' m k1 k2 k3 k4 k5 => ?_⟩
  refine R.put s0 s1 h2 nd hn ?_
  unfold dn
  exact ⟨a', b', c', rfl, rfl, upd_same, k1, k2, k3, k4, k5⟩
/-- a frozen list or tuple: its items -/
theorem R.items {ds : List PyData} (r : R K G0 H ((v, .fz (.list ds)) :: L)) : ∃ a vs, v = .ref a ∧ H a = some (.lst vs) ∧ vs.length = ds.length ∧ R K G0 H (fzs vs ds ++ ((v, .fz (.list ds)) :: L)) := by
  obtain ⟨G, f, g, s0, s1, h1, h2, nd, hn⟩ := R.cons_iff.mp r
  unfold dn at h1
  obtain ⟨h1, rfl⟩ := h1
  cases h1 with
  | @lst a vs _ hs ha =>
    refine ⟨a, vs, rfl, s1 _ _ hs, dpAll_len ha, (R.fzs_iff (dpAll_len ha)).mpr ⟨G, g, s0, s1, ha, ?_, nd, hn⟩⟩
    simp only [tO, tV, List.cons_append, List.map_cons]
    unfold dnAll
    refine ⟨_, _, [], g, rfl, rfl, ?_, h2⟩
    unfold dn
    exact ⟨.lst hs ha, rfl⟩
theorem R.itemsT {ds : List PyData} (r : R K G0 H ((v, .fz (.tuple ds)) :: L)) : ∃ a vs, v = .ref a ∧ SqT K H a vs ∧ vs.length = ds.length ∧ R K G0 H (fzs vs ds ++ ((v, .fz (.tuple ds)) :: L)) := by
  obtain ⟨G, f, g, s0, s1, h1, h2, nd, hn⟩ := R.cons_iff.mp r
  unfold dn at h1
  obtain ⟨h1, rfl⟩ := h1
  cases h1 with
  | @tup a vs _ hs ha =>
    refine ⟨a, vs, rfl, same_tup s1 hs, dpAll_len ha, (R.fzs_iff (dpAll_len ha)).mpr ⟨G, g, s0, s1, ha, ?_, nd, hn⟩⟩
    simp only [tO, tV, List.cons_append, List.map_cons]
    unfold dnAll
    refine ⟨_, _, [], g, rfl, rfl, ?_, h2⟩
    unfold dn
    exact ⟨.tup hs ha, rfl⟩
/-- a list of one's own: its items, frozen each -/
theorem R.itemsO {ds : List PyData} (r : R K G0 H ((v, .own ds) :: L)) : ∃ a vs, v = .ref a ∧ H a = some (.lst vs) ∧ vs.length = ds.length ∧ R K G0 H (fzs vs ds ++ ((v, .own ds) :: L)) := by
  obtain ⟨G, f, g, s0, s1, h1, h2, nd, hn⟩ := R.cons_iff.mp r
  have h1' := h1
  unfold dn at h1
  obtain ⟨p, vs, rfl, rfl, e1, e2⟩ := h1
  refine ⟨p, vs, rfl, e1, dpAll_len e2, (R.fzs_iff (dpAll_len e2)).mpr ⟨G, [p] ++ g, s0, s1, e2, ?_, nd, hn⟩⟩
  simp only [tO, tV, List.cons_append, List.map_cons]
  unfold dnAll
  exact ⟨_, _, [p], g, rfl, rfl, h1', h2⟩
theorem R.int {i : Int} (r : R K G0 H ((v, .fz (.int i)) :: L)) : v = .int i := by
  have h := r.seen (o := .fz (.int i)) rfl
  cases h
  rfl
theorem R.bl {b : Bool} (r : R K G0 H ((v, .fz (.bool b)) :: L)) : v = .bl b := by
  have h := r.seen (o := .fz (.bool b)) rfl
  cases h
  rfl
theorem R.str {x : Str} (r : R K G0 H ((v, .fz (.str x)) :: L)) : v = .str x := by
  have h := r.seen (o := .fz (.str x)) rfl
  cases h
  rfl
theorem R.non (r : R K G0 H ((v, .fz .none) :: L)) : v = .non := by
  have h := r.seen (o := .fz .none) rfl
  cases h
  rfl
end
abbrev Sl := L2.St
abbrev Gm := List (Option O)
def ents : Sl → Gm → Ent
  | some v :: σ, some o :: Γ => (v, o) :: ents σ Γ
  | _ :: σ, _ :: Γ => ents σ Γ
  | _, _ => []
def Fit : Sl → Gm → Prop
  | _ :: σ, none :: Γ => Fit σ Γ
  | some _ :: σ, some _ :: Γ => Fit σ Γ
  | none :: _, some _ :: _ => False
  | [], [] => True
  | _, _ => False
def put : Gm → Nat → Option O → Gm
  | [], _, _ => []
  | _ :: Γ, 0, o => o :: Γ
  | x :: Γ, i + 1, o => x :: put Γ i o
def get : Gm → Nat → Option O
  | [], _ => none
  | x :: _, 0 => x
  | _ :: Γ, i + 1 => get Γ i
theorem Fit.len : ∀ {σ : Sl} {Γ : Gm}, Fit σ Γ → σ.length = Γ.length
  | [], [], _ => rfl
  | none :: σ, none :: Γ, h => congrArg (· + 1) (Fit.len (σ := σ) (Γ := Γ) h)
  | some _ :: σ, none :: Γ, h => congrArg (· + 1) (Fit.len (σ := σ) (Γ := Γ) h)
  | some _ :: σ, some _ :: Γ, h => congrArg (· + 1) (Fit.len (σ := σ) (Γ := Γ) h)
  | none :: _, some _ :: _, h => h.elim
  | [], _ :: _, h => h.elim
  | none :: _, [], h => h.elim
  | some _ :: _, [], h => h.elim
theorem put_len : ∀ (Γ : Gm) (i : Nat) (o : Option O), (put Γ i o).length = Γ.length
  | [], _, _ => rfl
  | _ :: Γ, 0, o => rfl
  | x :: Γ, i + 1, o => congrArg (· + 1) (put_len Γ i o)
theorem put_put : ∀ (Γ : Gm) (i : Nat) (o u : Option O), put (put Γ i o) i u = put Γ i u
  | [], _, _, _ => rfl
  | _ :: Γ, 0, _, _ => rfl
  | x :: Γ, i + 1, o, u => congrArg (x :: ·) (put_put Γ i o u)
/-- slot i apart -/
theorem ents_out : ∀ {σ : Sl} {Γ : Gm} {i : Nat} {o : O}, Fit σ Γ → get Γ i = some o → ∃ v, σ[i]? = some (some v) ∧ (ents σ Γ).Perm ((v, o) :: ents σ (put Γ i none)) ∧ Fit σ (put Γ i none)
  | [], [], _, _, _, h => by simp [get] at h
  | none :: σ, none :: Γ, 0, o, _, h => by simp [get] at h
  | some w :: σ, none :: Γ, 0, o, _, h => by simp [get] at h
  | none :: σ, none :: Γ, i + 1, o, f, h => by
    obtain ⟨v, h1, h2, h3⟩ := ents_out (σ := σ) (Γ := Γ) (i := i) f h
    exact ⟨v, by simpa using h1, h2, h3⟩
  | some w :: σ, none :: Γ, i + 1, o, f, h => by
    obtain ⟨v, h1, h2, h3⟩ := ents_out (σ := σ) (Γ := Γ) (i := i) f h
    exact ⟨v, by simpa using h1, h2, h3⟩
  | some w :: σ, some u :: Γ, 0, o, f, h => by
    have e : u = o := Option.some.inj h
    subst e
    exact ⟨w, rfl, .refl _, f⟩
  | some w :: σ, some u :: Γ, i + 1, o, f, h => by
    obtain ⟨v, h1, h2, h3⟩ := ents_out (σ := σ) (Γ := Γ) (i := i) f h
    exact ⟨v, by simpa using h1, (h2.cons (w, u)).trans (.swap _ _ _), h3⟩
  | none :: _, some _ :: _, _, _, f, _ => f.elim
  | [], _ :: _, _, _, f, _ => f.elim
  | none :: _, [], _, _, f, _ => f.elim
  | some _ :: _, [], _, _, f, _ => f.elim
/-- slot i is stored -/
theorem ents_in {v : V} {o : O} : ∀ {σ : Sl} {Γ : Gm} {i : Nat}, Fit σ Γ → i < Γ.length → (ents (σ.set i (some v)) (put Γ i (some o))).Perm ((v, o) :: ents σ (put Γ i none)) ∧ Fit (σ.set i (some v)) (put Γ i (some o))
  | [], [], _, _, h => by simp at h
  | x :: σ, none :: Γ, 0, f, _ => by
    have f : Fit σ Γ := by cases x <;> exact f
    refine ⟨?_, f⟩
    cases x <;> exact .refl _
  | some w :: σ, some u :: Γ, 0, f, _ => ⟨.refl _, f⟩
  | none :: σ, none :: Γ, i + 1, f, h => by
    obtain ⟨h2, h3⟩ := ents_in (v := v) (o := o) (σ := σ) (Γ := Γ) (i := i) f (by simpa using h)
    exact ⟨h2, h3⟩
  | some w :: σ, none :: Γ, i + 1, f, h => by
    obtain ⟨h2, h3⟩ := ents_in (v := v) (o := o) (σ := σ) (Γ := Γ) (i := i) f (by simpa using h)
    exact ⟨h2, h3⟩
  | some w :: σ, some u :: Γ, i + 1, f, h => by
    obtain ⟨h2, h3⟩ := ents_in (v := v) (o := o) (σ := σ) (Γ := Γ) (i := i) f (by simpa using h)
    exact ⟨(h2.cons (w, u)).trans (.swap _ _ _), h3⟩
  | none :: _, some _ :: _, _, f, _ => f.elim
  | [], _ :: _, _, f, _ => f.elim
  | none :: _, [], _, f, _ => f.elim
  | some _ :: _, [], _, f, _ => f.elim
/-- slot i is told anew, its value as it was -/
theorem ents_back {v : V} {o : O} : ∀ {σ : Sl} {Γ : Gm} {i : Nat}, Fit σ Γ → i < Γ.length → σ[i]? = some (some v) → (ents σ (put Γ i (some o))).Perm ((v, o) :: ents σ (put Γ i none)) ∧ Fit σ (put Γ i (some o)) := fun {σ Γ i} f h e => by
  have q := ents_in (v := v) (o := o) f h
  have es : σ.set i (some v) = σ := by
    obtain ⟨hl, hx⟩ := List.getElem?_eq_some_iff.mp e
    rw [← hx, List.set_getElem_self]
  rw [es] at q
  exact q
theorem get_lt : ∀ {Γ : Gm} {i : Nat} {o : O}, get Γ i = some o → i < Γ.length
  | [], _, _, h => by simp [get] at h
  | _ :: Γ, 0, _, _ => by simp
  | _ :: Γ, i + 1, _, h => by have := get_lt (Γ := Γ) (i := i) h; simp; omega
def AlOk (σ : Sl) (T : Ent) : Prop := ∀ v i, (v, O.al i) ∈ T → σ[i]? = some (some v)
/-- the state of a body: temporaries T, the names, the frame F around -/
structure Rel (K : PySem.W.Frag) (G0 : Hp) (T F : Ent) (σ : Sl) (H : Hp) (Γ : Gm) : Prop where
  fit : Fit σ Γ
  al : AlOk σ T
  r : R K G0 H (T ++ (ents σ Γ ++ F))
section
variable {K : PySem.W.Frag} {G0 G H H' : Hp} {T F : Ent} {σ : Sl} {Γ : Gm} {v : V} {o : O} {d : PyData} {i : Nat}
theorem AlOk.tail (h : AlOk σ ((v, o) :: T)) : AlOk σ T := fun w i m => h w i (List.mem_cons_of_mem _ m)
theorem AlOk.cons (h : AlOk σ T) (n : ∀ i, o ≠ .al i) : AlOk σ ((v, o) :: T) := fun w i m => by
  rcases List.mem_cons.mp m with e | m
  · cases e
    exact absurd rfl (n i)
  · exact h w i m
/-- slot i apart, in front -/
theorem Rel.out (r : Rel K G0 T F σ H Γ) (h : get Γ i = some o) : ∃ v, σ[i]? = some (some v) ∧ R K G0 H ((v, o) :: (T ++ (ents σ (put Γ i none) ++ F))) ∧ Fit σ (put Γ i none) := by
  obtain ⟨v, h1, h2, h3⟩ := ents_out r.fit h
  refine ⟨v, h1, r.r.perm ?_, h3⟩
  have q : (ents σ Γ ++ F).Perm ((v, o) :: (ents σ (put Γ i none) ++ F)) := h2.append_right F
  exact (q.append_left T).trans List.perm_middle
/-- .. and back, told anew -/
theorem Rel.back (f : Fit σ (put Γ i none)) (a : AlOk σ T) (hl : i < Γ.length) (e : σ[i]? = some (some v)) (r : R K G0 H ((v, o) :: (T ++ (ents σ (put Γ i none) ++ F)))) : Rel K G0 T F σ H (put Γ i (some o)) := by
  have q := ents_back (v := v) (o := o) f (i := i) (by rw [put_len]; exact hl) e
  rw [put_put, put_put] at q
  refine ⟨q.2, a, r.perm (List.perm_middle.symm.trans (List.Perm.append_left T ?_))⟩
  exact (q.1.append_right F).symm
/-- the data that is seen at hand -/
def vw (Γ : Gm) : O → Option PyData
  | .al i => match get Γ i with
    | some o => see o
    | none => none
  | o => see o
theorem Rel.view (r : Rel K G0 ((v, o) :: T) F σ H Γ) (h : vw Γ o = some d) : Dq K H v d := by
  cases o with
  | al i =>
    have h : (match get Γ i with | some o => see o | none => none) = some d := h
    cases q : get Γ i with
    | none => rw [q] at h; cases h
    | some u =>
      rw [q] at h
      obtain ⟨w, h1, h2, _⟩ := r.out q
      have e : σ[i]? = some (some v) := r.al v i List.mem_cons_self
      rw [h1] at e
      cases e
      exact h2.seen h
  | fz _ => exact r.r.seen h
  | own _ => exact r.r.seen h
  | ol _ => exact r.r.seen h
  | box _ _ => exact r.r.seen h
  | any => exact r.r.seen h
  | dct _ => exact r.r.seen h
  | ob _ => exact r.r.seen h
/-- the value at hand as data that stands still from now on -/
def esc (Γ : Gm) (o : O) (k : PyData → Gm → Prop) : Prop := match o with
  | .al i => match get Γ i with
    | some u => match see u with
      | some d => k d (put Γ i (some (.fz d)))
      | none => False
    | none => False
  | .fz d => k d Γ
  | .own ds => k (.list ds) Γ
  | o => match see o with
    | some d => k d Γ
    | none => False
theorem Rel.fz' (r : Rel K G0 ((v, o) :: T) F σ H Γ) (h : see o = some d) : Rel K G0 ((v, .fz d) :: T) F σ H Γ :=
  ⟨r.fit, r.al.tail.cons (fun _ z => nomatch z), r.r.freeze h⟩
theorem Rel.escape {k : PyData → Gm → Prop} (r : Rel K G0 ((v, o) :: T) F σ H Γ) (h : esc Γ o k) : ∃ d Γ', k d Γ' ∧ Rel K G0 ((v, .fz d) :: T) F σ H Γ' := by
  have gen : (match see o with | some d => k d Γ | none => False) → ∃ d Γ', k d Γ' ∧ Rel K G0 ((v, .fz d) :: T) F σ H Γ' := fun h => by
    cases q : see o with
    | none => rw [q] at h; exact h.elim
    | some d => rw [q] at h; exact ⟨d, Γ, h, r.fz' q⟩
  cases o with
  | al i =>
    have h : (match get Γ i with | some u => (match see u with | some d => k d (put Γ i (some (.fz d))) | none => False) | none => False) := h
    cases q : get Γ i with
    | none => rw [q] at h; exact h.elim
    | some u =>
      rw [q] at h
      have h : (match see u with | some d => k d (put Γ i (some (.fz d))) | none => False) := h
      cases q2 : see u with
      | none => rw [q2] at h; exact h.elim
      | some d =>
        rw [q2] at h
        obtain ⟨w, h1, h2, h3⟩ := r.out q
        have e : σ[i]? = some (some v) := r.al v i List.mem_cons_self
        rw [h1] at e
        cases e
        have r2 := (h2.freeze q2).copy
        have r3 : R K G0 H ((v, .fz d) :: ((v, .fz d) :: T ++ (ents σ (put Γ i none) ++ F))) := by
          refine (R.tail (v := v) (o := .al i) (r2.perm ?_))
          exact (List.Perm.cons _ (.swap _ _ _)).trans (.swap _ _ _)
        exact ⟨d, _, h, Rel.back h3 (r.al.tail.cons fun _ z => nomatch z) (get_lt q) h1 r3⟩
  | fz d => exact ⟨d, Γ, h, r⟩
  | own ds => exact ⟨_, Γ, h, r.fz' rfl⟩
  | ol _ => exact gen h
  | box _ _ => exact gen h
  | any => exact gen h
  | dct _ => exact gen h
  | ob _ => exact gen h
/-- the value at hand as it is: what a slot held moves out of it -/
def mov (Γ : Gm) (o : O) (k : O → Gm → Prop) : Prop := match o with
  | .al i => match get Γ i with
    | some (.al _) => False
    | some u => k u (put Γ i none)
    | none => False
  | o => k o Γ
theorem Rel.moved {k : O → Gm → Prop} (r : Rel K G0 ((v, o) :: T) F σ H Γ) (h : mov Γ o k) : ∃ o' Γ', k o' Γ' ∧ (∀ i, o' ≠ .al i) ∧ Rel K G0 ((v, o') :: T) F σ H Γ' := by
  cases o with
  | al i =>
    have h : (match get Γ i with | some (.al _) => False | some u => k u (put Γ i none) | none => False) := h
    cases q : get Γ i with
    | none => rw [q] at h; exact h.elim
    | some u =>
      obtain ⟨w, h1, h2, h3⟩ := r.out q
      have e : σ[i]? = some (some v) := r.al v i List.mem_cons_self
      rw [h1] at e
      cases e
      have r3 : R K G0 H ((v, u) :: (T ++ (ents σ (put Γ i none) ++ F))) := R.tail (v := v) (o := .al i) (h2.perm (.swap _ _ _))
      have nal : (∀ j, u ≠ .al j) → k u (put Γ i none) → ∃ o' Γ', k o' Γ' ∧ (∀ i, o' ≠ .al i) ∧ Rel K G0 ((v, o') :: T) F σ H Γ' := fun n hk => ⟨u, _, hk, n, h3, r.al.tail.cons n, r3⟩
      rw [q] at h
      cases u with
      | al j => exact h.elim
      | fz d => exact nal (fun _ z => nomatch z) h
      | own _ => exact nal (fun _ z => nomatch z) h
      | ol _ => exact nal (fun _ z => nomatch z) h
      | box _ _ => exact nal (fun _ z => nomatch z) h
      | any => exact nal (fun _ z => nomatch z) h
      | dct _ => exact nal (fun _ z => nomatch z) h
      | ob _ => exact nal (fun _ z => nomatch z) h
  | fz d => exact ⟨_, Γ, h, (fun _ z => nomatch z), r⟩
  | own ds => exact ⟨_, Γ, h, (fun _ z => nomatch z), r⟩
  | ol _ => exact ⟨_, Γ, h, (fun _ z => nomatch z), r⟩
  | box _ _ => exact ⟨_, Γ, h, (fun _ z => nomatch z), r⟩
  | any => exact ⟨_, Γ, h, (fun _ z => nomatch z), r⟩
  | dct _ => exact ⟨_, Γ, h, (fun _ z => nomatch z), r⟩
  | ob _ => exact ⟨_, Γ, h, (fun _ z => nomatch z), r⟩
end
end Dl
end
section
namespace Dl
open PySem PySem.Spec PyProof.Rows L2
abbrev TEd := Gm → (O → Gm → Prop) → Prop
abbrev TTd := Gm → (Bool → Gm → Prop) → Prop
abbrev TAd := Gm → (List O → Gm → Prop) → Prop
def liftE (K : PySem.W.Frag) (τ : TEd) : TE := fun σ H Q => ∃ G0 Γ T F Kt, Rel K G0 T F σ H Γ ∧ τ Γ Kt ∧ ∀ o Γ' v H', Kt o Γ' → Rel K G0 ((v, o) :: T) F σ H' Γ' → Q v H'
def liftT (K : PySem.W.Frag) (τ : TTd) : TT := fun σ H Q => ∃ G0 Γ T F Kt, Rel K G0 T F σ H Γ ∧ τ Γ Kt ∧ ∀ b Γ' H', Kt b Γ' → Rel K G0 T F σ H' Γ' → Q b H'
def liftA (K : PySem.W.Frag) (τ : TAd) : TA := fun σ H Q => ∃ G0 Γ T F Kt, Rel K G0 T F σ H Γ ∧ τ Γ Kt ∧ ∀ os Γ' vs H', Kt os Γ' → vs.length = os.length → Rel K G0 (vs.zip os ++ T) F σ H' Γ' → Q vs H'
abbrev DE (X : Cx) (e : Expr) (τ : TEd) : Prop := PE X e (liftE X.K τ)
abbrev DT (X : Cx) (e : Expr) (τ : TTd) : Prop := PT X e (liftT X.K τ)
abbrev DA (X : Cx) (es : List Expr) (τ : TAd) : Prop := PA X es (liftA X.K τ)
theorem peI {X : Cx} {e : Expr} {t t' : TE} (h : PE X e t) (f : ∀ σ H Q, t' σ H Q → t σ H Q) : PE X e t' := ⟨fun pins s σ H Q I q => h.run pins s σ H Q I (f σ H Q q)⟩
theorem ptI {X : Cx} {e : Expr} {t t' : TT} (h : PT X e t) (f : ∀ σ H Q, t' σ H Q → t σ H Q) : PT X e t' := ⟨fun pins s σ H Q I q => h.run pins s σ H Q I (f σ H Q q)⟩
theorem paI {X : Cx} {e : List Expr} {t t' : TA} (h : PA X e t) (f : ∀ σ H Q, t' σ H Q → t σ H Q) : PA X e t' := ⟨fun pos pins s σ H Q I q => h.run pos pins s σ H Q I (f σ H Q q)⟩
theorem psI {X : Cx} {e : Stmt} {t t' : TS} (h : PS X e t) (f : ∀ D σ H, t' D σ H → t D σ H) : PS X e t' := ⟨fun pins s σ H D I q => h.run pins s σ H D I (f D σ H q)⟩
theorem pssI {X : Cx} {e : List Stmt} {t t' : TS} (h : PSs X e t) (f : ∀ D σ H, t' D σ H → t D σ H) : PSs X e t' := ⟨fun pins s σ H D I q => h.run pins s σ H D I (f D σ H q)⟩
section
variable {K : PySem.W.Frag} {G0 H H' : Hp} {T F : Ent} {σ : Sl} {Γ : Gm} {v w : V} {o p : O} {d e : PyData} {i : Nat}
theorem Rel.drop (r : Rel K G0 ((v, o) :: T) F σ H Γ) : Rel K G0 T F σ H Γ := ⟨r.fit, r.al.tail, r.r.tail⟩
theorem Rel.dropN : ∀ {vs : List V} {os : List O}, Rel K G0 (vs.zip os ++ T) F σ H Γ → Rel K G0 T F σ H Γ
  | [], _, r => r
  | _ :: _, [], r => r
  | _ :: vs, _ :: os, r => Rel.dropN (vs := vs) (os := os) (Rel.drop r)
theorem Rel.push (r : Rel K G0 T F σ H Γ) (h : ∀ G, Dq K G v d) : Rel K G0 ((v, .fz d) :: T) F σ H Γ := ⟨r.fit, r.al.cons (fun _ z => nomatch z), r.r.add h⟩
theorem Rel.grow (r : Rel K G0 T F σ H Γ) (e : Same H H') : Rel K G0 T F σ H' Γ := ⟨r.fit, r.al, r.r.grow e⟩
theorem Rel.swap (r : Rel K G0 ((v, o) :: (w, p) :: T) F σ H Γ) : Rel K G0 ((w, p) :: (v, o) :: T) F σ H Γ :=
  ⟨r.fit, fun u i m => r.al u i (by simp only [List.mem_cons] at m ⊢; rcases m with m | m | m <;> simp [m]), r.r.perm (.swap _ _ _)⟩
end
section
variable {X : Cx} {a b c : Expr} {τa τb τc : TEd} {τt : TTd} {pos : Pos} {es : List Expr} {τs : TAd}
def dC (d : PyData) : TEd := fun Γ Kt => Kt (.fz d) Γ
theorem dC_of {e : Expr} {v : V} {d : PyData} (h : PE X e (tC v)) (hd : ∀ G, Dq X.K G v d) : DE X e (dC d) := peI h fun σ H Q ⟨G0, Γ, T, F, Kt, r, k, q⟩ => q _ _ _ _ k (r.push hd)
theorem de_int {i j pos} : DE X (.Constant (.int i) j pos) (dC (.int i)) := dC_of pe_int fun _ => .int i
theorem de_bl {b j pos} : DE X (.Constant (.bool b) j pos) (dC (.bool b)) := dC_of pe_bl fun _ => .bl b
theorem de_non {j pos} : DE X (.Constant .none j pos) (dC .none) := dC_of pe_non fun _ => .non
theorem de_str {x j pos} : DE X (.Constant (.str x) j pos) (dC (.str x)) := dC_of pe_str fun _ => .str x
def dVar (i : Nat) : TEd := fun Γ Kt => match get Γ i with
  | some (.fz d) => Kt (.fz d) Γ
  | some (.al _) => False
  | some .any => False
  | some _ => Kt (.al i) Γ
  | none => False
theorem de_of_var {e : Expr} {i : Nat} (h : PE X e (tVar i)) : DE X e (dVar i) := peI h fun σ H Q ⟨G0, Γ, T, F, Kt, r, k, q⟩ => by
  unfold dVar at k
  cases g : get Γ i with
  | none => rw [g] at k; exact k.elim
  | some o =>
    obtain ⟨v, h1, h2, h3⟩ := r.out g
    have named : Kt (.al i) Γ → Q v H := fun k => q _ _ v H k ⟨r.fit, fun u j m => by
      rcases List.mem_cons.mp m with e | m
      · cases e
        exact h1
      · exact r.al u j m, r.r.addAl⟩
    refine ⟨v, h1, ?_⟩
    rw [g] at k
    cases o with
    | fz d =>
      refine q _ _ v H k ⟨r.fit, r.al.cons (fun _ z => nomatch z), ?_⟩
      have r2 := h2.copy
      have r3 := Rel.back (v := v) (o := .fz d) (T := (v, .fz d) :: T) h3 (r.al.cons (fun _ z => nomatch z)) (get_lt g) h1 (r2.perm (.swap _ _ _))
      have e : put Γ i (some (.fz d)) = Γ := put_get g
      rw [e] at r3
      exact r3.r
    | al _ => exact k.elim
    | any => exact k.elim
    | own _ => exact named k
    | ol _ => exact named k
    | box _ _ => exact named k
    | dct _ => exact named k
    | ob _ => exact named k
where
  put_get {o : O} : ∀ {Γ : Gm} {i : Nat}, get Γ i = some o → put Γ i (some o) = Γ
    | [], _, h => by simp [get] at h
    | x :: Γ, 0, h => by
      have h : x = some o := h
      rw [h]
      rfl
    | x :: Γ, i + 1, h => congrArg (x :: ·) (put_get (Γ := Γ) (i := i) h)
/-- the name in slot i -/
theorem dv (i : Nat) {x : Str} {pos : Pos} (hN : X.N[i]? = some x := by rfl) (hv : Vis X.env.scope x := by first | exact Or.inl rfl | exact Or.inr (Or.inl rfl) | exact Or.inr (Or.inr rfl)) (hd : (x == ("__debug__" : Str)) = false := by decide)
    (hcd : (x == ("__classdict__" : Str)) = false := by decide) : DE X (.Name x pos) (dVar i) := de_of_var (pe_var hN hv hd hcd)
/-- a rule of two values, told over data -/
def Fit2 (K : PySem.W.Frag) (r : R2) (δ : Gm → O → O → (O → Gm → Prop) → Prop) : Prop :=
  ∀ (G0 : Hp) (Γ : Gm) (T F : Ent) (σ : Sl) (H : Hp) (v w : V) (o p : O) (Kt : O → Gm → Prop) (Q : VK), Rel K G0 ((w, p) :: (v, o) :: T) F σ H Γ → δ Γ o p Kt →
    (∀ z Γ' u H', Kt z Γ' → Rel K G0 ((u, z) :: T) F σ H' Γ' → Q u H') → r v w H Q
def dBin (δ : Gm → O → O → (O → Gm → Prop) → Prop) (τa τb : TEd) : TEd := fun Γ Kt => τa Γ fun o Γ1 => τb Γ1 fun p Γ2 => δ Γ2 o p Kt
theorem dBin_of {r : R2} {δ : Gm → O → O → (O → Gm → Prop) → Prop} (hf : Fit2 X.K r δ) {e : Expr} (h : PE X e (tOp r (liftE X.K τa) (liftE X.K τb))) : DE X e (dBin δ τa τb) :=
  peI h fun σ H Q ⟨G0, Γ, T, F, Kt, R1, k, q⟩ => ⟨G0, Γ, T, F, _, R1, k, fun o Γ1 v H1 k1 R2 => ⟨G0, Γ1, (v, o) :: T, F, _, R2, k1, fun p Γ2 w H2 k2 R3 => hf G0 Γ2 T F σ H2 v w o p Kt Q R3 k2 q⟩⟩
theorem de_op {op : Operator} {r : R2} {δ : Gm → O → O → (O → Gm → Prop) → Prop} (hf : Fit2 X.K r δ) (ho : OpR X (binaryOp op) r) (ha : DE X a τa) (hb : DE X b τb) : DE X (.BinOp a op b pos) (dBin δ τa τb) := dBin_of hf (pe_op ho ha hb)
theorem de_cmp {op : CmpOp} {r : R2} {δ : Gm → O → O → (O → Gm → Prop) → Prop} (hf : Fit2 X.K r δ) (ho : OpR X (compareOp op) r) (ha : DE X a τa) (hb : DE X b τb) (hm : behindInMarks op b = false) : DE X (.Compare a [op] [b] pos) (dBin δ τa τb) := dBin_of hf (pe_cmpR ho ha hb hm)
/-- a test -/
def onB (o : O) (k : Bool → Prop) : Prop := match o with
  | .fz (.bool c) => k c
  | _ => False
theorem onB_use {K : PySem.W.Frag} {G0 H : Hp} {T F : Ent} {σ : Sl} {Γ : Gm} {v : V} {o : O} {k : Bool → Prop} (R1 : Rel K G0 ((v, o) :: T) F σ H Γ) (h : onB o k) : ∃ c, v = .bl c ∧ o = .fz (.bool c) ∧ k c := by
  unfold onB at h
  split at h
  · exact ⟨_, R1.r.bl, rfl, h⟩
  · exact h.elim
def dTest (τ : TEd) : TTd := fun Γ Kt => τ Γ fun o Γ1 => onB o fun c => Kt c Γ1
theorem dTest_use {K : PySem.W.Frag} {G0 H : Hp} {T F : Ent} {σ : Sl} {Γ' : Gm} {Kt : Bool → Gm → Prop} {v : V} {o : O} {Q : Bool → Hp → Prop} (R1 : Rel K G0 ((v, o) :: T) F σ H Γ') (k : onB o fun c => Kt c Γ')
    (q : ∀ b Γ' H', Kt b Γ' → Rel K G0 T F σ H' Γ' → Q b H') : ∃ c, v = .bl c ∧ Q c H := by
  obtain ⟨c, rfl, rfl, k2⟩ := onB_use R1 k
  exact ⟨c, rfl, q c Γ' H k2 R1.drop⟩
theorem dt_val {e : Expr} {τ : TEd} (h : DE X e τ) (he : ∀ whole, isTrue e X.env whole = (do let v ← whole; standAt e.pos; holding [v] (truthy v)) := by intro _; rfl) : DT X e (dTest τ) :=
  ptI (pt_val h he) fun σ H Q ⟨G0, Γ, T, F, Kt, R1, k, q⟩ => ⟨G0, Γ, T, F, _, R1, k, fun o Γ1 v H1 k1 R2 => dTest_use R2 k1 q⟩
theorem dt_cmp {op : CmpOp} {r : R2} {δ : Gm → O → O → (O → Gm → Prop) → Prop} (hf : Fit2 X.K r δ) (ho : OpR X (compareOp op) r) (ha : DE X a τa) (hb : DE X b τb) (hm : behindInMarks op b = false) : DT X (.Compare a [op] [b] pos) (dTest (dBin δ τa τb)) :=
  ptI (pt_cmpR ho ha hb hm) fun σ H Q ⟨G0, Γ, T, F, Kt, R1, k, q⟩ => ⟨G0, Γ, T, F, _, R1, k, fun o Γ1 v H1 k1 R2 => ⟨G0, Γ1, (v, o) :: T, F, _, R2, k1, fun p Γ2 w H2 k2 R3 => hf G0 Γ2 T F σ H2 v w o p _ _ R3 k2 fun z Γ' u H' k3 R4 => dTest_use R4 k3 q⟩⟩
def dNotT (t : TTd) : TTd := fun Γ Kt => t Γ fun c Γ1 => Kt (!c) Γ1
theorem dt_not (h : DT X a τt) : DT X (.UnaryOp .Not a pos) (dNotT τt) := ptI (pt_not h) fun σ H Q ⟨G0, Γ, T, F, Kt, R1, k, q⟩ => ⟨G0, Γ, T, F, _, R1, k, fun b Γ1 H1 k1 R2 => q _ Γ1 H1 k1 R2⟩
abbrev DW (X : Cx) (e : Expr) (τ : TTd) : Prop := PW X e (liftT X.K τ)
theorem pwI {e : Expr} {t t' : TT} (h : PW X e t) (f : ∀ σ H Q, t' σ H Q → t σ H Q) : PW X e t' := ⟨fun wh pins s σ H Q I q => h.run wh pins s σ H Q I (f σ H Q q)⟩
def dAndT (t u : TTd) : TTd := fun Γ Kt => t Γ fun c Γ1 => (c = true → u Γ1 Kt) ∧ (c = false → Kt false Γ1)
def dOrT (t u : TTd) : TTd := fun Γ Kt => t Γ fun c Γ1 => (c = true → Kt true Γ1) ∧ (c = false → u Γ1 Kt)
variable {τu : TTd} {rest : List Expr}
theorem dw_and1 (ha : DT X a τt) : DW X (.BoolOp .And [a] pos) τt := pw_and1 ha
theorem dw_or1 (ha : DT X a τt) : DW X (.BoolOp .Or [a] pos) τt := pw_or1 ha
theorem dw_and (ha : DT X a τt) (hb : DW X (.BoolOp .And (b :: rest) pos) τu) : DW X (.BoolOp .And (a :: b :: rest) pos) (dAndT τt τu) := pwI (pw_and ha hb) fun σ H Q ⟨G0, Γ, T, F, Kt, R1, k, q⟩ => ⟨G0, Γ, T, F, _, R1, k, fun c Γ1 H1 k1 R2 => by
  cases c with
  | true => rw [if_pos rfl]; exact ⟨G0, Γ1, T, F, Kt, R2, k1.1 rfl, q⟩
  | false => rw [if_neg (by decide)]; exact q _ Γ1 H1 (k1.2 rfl) R2⟩
theorem dw_or (ha : DT X a τt) (hb : DW X (.BoolOp .Or (b :: rest) pos) τu) : DW X (.BoolOp .Or (a :: b :: rest) pos) (dOrT τt τu) := pwI (pw_or ha hb) fun σ H Q ⟨G0, Γ, T, F, Kt, R1, k, q⟩ => ⟨G0, Γ, T, F, _, R1, k, fun c Γ1 H1 k1 R2 => by
  cases c with
  | true => rw [if_pos rfl]; exact q _ Γ1 H1 (k1.1 rfl) R2
  | false => rw [if_neg (by decide)]; exact ⟨G0, Γ1, T, F, Kt, R2, k1.2 rfl, q⟩⟩
theorem dt_w (h : DW X a τt) : DT X a τt := h.pt
/-- as values -/
def dAndV (t u : TEd) : TEd := fun Γ Kt => t Γ fun o Γ1 => onB o fun c => (c = true → u Γ1 Kt) ∧ (c = false → Kt (.fz (.bool false)) Γ1)
def dOrV (t u : TEd) : TEd := fun Γ Kt => t Γ fun o Γ1 => onB o fun c => (c = true → Kt (.fz (.bool true)) Γ1) ∧ (c = false → u Γ1 Kt)
def dNotV (t : TEd) : TEd := fun Γ Kt => t Γ fun o Γ1 => onB o fun c => Kt (.fz (.bool (!c))) Γ1
theorem de_and (ha : DE X a τa) (hb : DE X (.BoolOp .And (b :: rest) pos) τb) : DE X (.BoolOp .And (a :: b :: rest) pos) (dAndV τa τb) := peI (pe_and ha hb) fun σ H Q ⟨G0, Γ, T, F, Kt, R1, k, q⟩ => ⟨G0, Γ, T, F, _, R1, k, fun o Γ1 v H1 k1 R2 => by
  obtain ⟨c, rfl, rfl, k2⟩ := onB_use R2 k1
  refine ⟨c, rfl, ?_⟩
  cases c with
  | true => rw [if_pos rfl]; exact ⟨G0, Γ1, T, F, Kt, R2.drop, k2.1 rfl, q⟩
  | false => rw [if_neg (by decide)]; exact q _ Γ1 _ H1 (k2.2 rfl) R2⟩
theorem de_one {op} (h : DE X a τa) : DE X (.BoolOp op [a] pos) τa := pe_one h
theorem de_not (ha : DE X a τa) : DE X (.UnaryOp .Not a pos) (dNotV τa) := peI (pe_not ha) fun σ H Q ⟨G0, Γ, T, F, Kt, R1, k, q⟩ => ⟨G0, Γ, T, F, _, R1, k, fun o Γ1 v H1 k1 R2 => by
  obtain ⟨c, rfl, rfl, k2⟩ := onB_use R2 k1
  exact ⟨c, rfl, q _ Γ1 _ H1 k2 (R2.drop.push fun _ => .bl _)⟩⟩
def dIf (t : TTd) (u w : TEd) : TEd := fun Γ Kt => t Γ fun c Γ1 => (c = true → u Γ1 Kt) ∧ (c = false → w Γ1 Kt)
theorem de_if (hc : DT X c τt) (ha : DE X a τa) (hb : DE X b τb) : DE X (.IfExp c a b pos) (dIf τt τa τb) := peI (pe_ifExp hc ha hb) fun σ H Q ⟨G0, Γ, T, F, Kt, R1, k, q⟩ => ⟨G0, Γ, T, F, _, R1, k, fun c Γ1 H1 k1 R2 => by
  cases c with
  | true => rw [if_pos rfl]; exact ⟨G0, Γ1, T, F, Kt, R2, k1.1 rfl, q⟩
  | false => rw [if_neg (by decide)]; exact ⟨G0, Γ1, T, F, Kt, R2, k1.2 rfl, q⟩⟩
def dNil : TAd := fun Γ Kt => Kt [] Γ
def dCons (t : TEd) (u : TAd) : TAd := fun Γ Kt => t Γ fun o Γ1 => u Γ1 fun os Γ2 => Kt (o :: os) Γ2
theorem da_nil : DA X [] dNil := paI pa_nil fun σ H Q ⟨G0, Γ, T, F, Kt, R1, k, q⟩ => q [] Γ [] H k rfl R1
theorem da_cons {e : Expr} (ha : DE X e τa) (hr : DA X es τs) (hs : starEach (e :: es) X.env = (false, eval e X.env) :: starEach es X.env := by rfl) : DA X (e :: es) (dCons τa τs) :=
  paI (pa_cons ha hr hs) fun σ H Q ⟨G0, Γ, T, F, Kt, R1, k, q⟩ => ⟨G0, Γ, T, F, _, R1, k, fun o Γ1 v H1 k1 R2 => ⟨G0, Γ1, (v, o) :: T, F, _, R2, k1, fun os Γ2 vs H2 k2 hl R3 => q (o :: os) Γ2 (v :: vs) H2 k2 (congrArg (· + 1) hl) ⟨R3.fit, fun u i m => R3.al u i (by
      simp only [List.zip_cons_cons, List.cons_append, List.mem_cons, List.mem_append] at m ⊢
      rcases m with m | m | m <;> simp [m]), R3.r.perm (by
      simp only [List.zip_cons_cons, List.cons_append, List.append_assoc]
      exact List.perm_middle)⟩⟩⟩
def FitC (K : PySem.W.Frag) (r : List V → Hp → VK → Prop) (ρ : Gm → List O → (O → Gm → Prop) → Prop) : Prop :=
  ∀ (G0 : Hp) (Γ : Gm) (T F : Ent) (σ : Sl) (H : Hp) (vs : List V) (os : List O) (Kt : O → Gm → Prop) (Q : VK), vs.length = os.length → Rel K G0 (vs.zip os ++ T) F σ H Γ → ρ Γ os Kt →
    (∀ z Γ' u H', Kt z Γ' → Rel K G0 ((u, z) :: T) F σ H' Γ' → Q u H') → r vs H Q
def dCB (ρ : Gm → List O → (O → Gm → Prop) → Prop) (t : TAd) : TEd := fun Γ Kt => t Γ fun os Γ1 => ρ Γ1 os Kt
theorem dCB_of {r : List V → Hp → VK → Prop} {ρ : Gm → List O → (O → Gm → Prop) → Prop} {e : Expr} (hf : FitC X.K r ρ) (h : PE X e (tCB r (liftA X.K τs))) : DE X e (dCB ρ τs) :=
  peI h fun σ H Q ⟨G0, Γ, T, F, Kt, R1, k, q⟩ => ⟨G0, Γ, T, F, _, R1, k, fun os Γ1 vs H1 k1 hl R2 => hf G0 Γ1 T F σ H1 vs os Kt Q hl R2 k1 q⟩
end
end Dl
end
section
namespace Dl
open PySem PySem.Spec PyProof.Rows L2
def SQ (K : PySem.W.Frag) (H : Hp) (k : Bool) (a : Addr) (xs : List V) : Prop := match k with
  | true => SqL K H a xs
  | false => SqT K H a xs
def SI (h : Heap) (k : Bool) (it a : Addr) (i : Nat) : Prop := match k with
  | true => h.IsListIter it a i
  | false => h.IsTupleIter it a i
def SV (h : Heap) (k : Bool) (a : Addr) (its : Array Value) : Prop := match k with
  | true => h.IsList a its
  | false => h.IsTuple a its
def itO (k : Bool) (a : Addr) : Obj := match k with
  | true => { cls := .type "list_iterator", data := .fields #[.ref a, .int 0 0] }
  | false => { cls := .type "tuple_iterator", data := .fields #[.ref a, .int 0 0] }
section
variable {X : Cx} {pins : List (Addr × Obj)} {σ : Sl} {H : Hp} {s : Shared} {k : Bool} {a it : Addr} {xs ys : List V}
theorem sq_val (I : Inv X pins σ H s) (h : SQ X.K H k a xs) : ∃ its : List Value, Vals xs its ∧ SV s.heap k a its.toArray := by
  cases k with
  | true => obtain ⟨its, rv, p, _⟩ := I.list h; exact ⟨its, rv, p.isList⟩
  | false => obtain ⟨its, rv, p, _⟩ := I.tuple h; exact ⟨its, rv, (show s.heap.IsTuple a its.toArray from p)⟩
theorem sq_inj (I : Inv X pins σ H s) (h : SQ X.K H k a xs) (h' : SQ X.K H k a ys) : xs = ys := by
  cases k with
  | true => exact I.list_inj h h'
  | false => exact I.tuple_inj h h'
theorem sv_lt {h : Heap} {its : Array Value} (x : SV h k a its) : a < h.objs.size := by
  cases k with
  | true => obtain ⟨o, e, _⟩ := x; exact Heap.lt_size e
  | false => obtain ⟨o, e, _⟩ := (show h.IsTuple a its from x); exact Heap.lt_size e
theorem si_get {h : Heap} {i : Nat} (x : SI h k it a i) : ∃ o, h.get? it = some o ∧ ∀ v, o.data ≠ .cell v := by
  cases k with
  | true => obtain ⟨o, e, _, d⟩ := x; exact ⟨o, e, fun v q => by rw [d] at q; cases q⟩
  | false => obtain ⟨o, e, _, d⟩ := (show h.IsTupleIter it a i from x); exact ⟨o, e, fun v q => by rw [d] at q; cases q⟩
theorem si_stay {h h' : Heap} {i : Nat} (x : SI h k it a i) (e : ∀ o, h.get? it = some o → h'.get? it = some o) : SI h' k it a i := by
  cases k with
  | true => exact Heap.IsListIter.at x e
  | false => exact Heap.IsTupleIter.at x e
theorem si_new {h : Heap} (e : h.get? it = some (itO k a)) : SI h k it a 0 := by
  cases k with
  | true => exact ⟨_, e, rfl, rfl⟩
  | false => exact ⟨_, e, rfl, rfl⟩
theorem drawsK {P : Program} {w : World} {A : Around} (hh : A.handled = none) (k : Bool) (it l : Addr) (hne : l ≠ it) (items : Array Value) :
    Draws P w A it [it, l] items.size (fun i v => items[i]? = some v) (fun i h => SI h k it l i ∧ SV h k l items) := by
  cases k with
  | true => exact Draws.list hh it l hne items
  | false => exact Draws.tuple hh it l hne items
theorem beginsK (k : Bool) (l : Addr) (items : Array Value) : Begins (.ref l) (itO k l) fun h => SV h k l items := by
  cases k with
  | true => exact begins_list l items
  | false => exact begins_tuple l items
end
def ItS (K : PySem.W.Frag) (k : Bool) (a : Addr) : It := match k with
  | true => Itl K a
  | false => Itt K a
def ItEn (K : PySem.W.Frag) (k : Bool) (a : Addr) : It :=
  ⟨fun i H => ∃ (xs : List V) (x : V), SQ K H k a xs ∧ xs[i]? = some x, fun i H v H' => ∃ T x, v = .ref T ∧ H T = none ∧ H' = upd H T (.tup [.int (i : Nat), x]) ∧ ∀ xs, SQ K H k a xs → xs[i]? = some x, fun i H => ∃ xs : List V, SQ K H k a xs ∧ i = xs.length⟩
def ItZp (K : PySem.W.Frag) (k l : Bool) (a b : Addr) : It :=
  ⟨fun i H => ∃ (xs ys : List V) (x y : V), SQ K H k a xs ∧ SQ K H l b ys ∧ xs[i]? = some x ∧ ys[i]? = some y,
    fun i H v H' => ∃ T x y, v = .ref T ∧ H T = none ∧ H' = upd H T (.tup [x, y]) ∧ (∀ xs, SQ K H k a xs → xs[i]? = some x) ∧ ∀ ys, SQ K H l b ys → ys[i]? = some y,
    fun i H => ∃ xs ys : List V, SQ K H k a xs ∧ SQ K H l b ys ∧ i = min xs.length ys.length⟩
section
variable {P : Program} {w : World} {K : PySem.W.Frag}
theorem turn_enumK {elts : List Expr} {kk : Nat} {tpos : Pos} (k : Bool) {a e it : Addr} (hne : e ≠ it) (hae : a ≠ e) (hai : a ≠ it) :
    Turn P w K (.Tuple elts kk tpos) (ItEn K k a) [e, it] e (fun i h => (∃ old, IsEnum h e it ((i : Nat) : Int) old) ∧ SI h k it a i) where
  mem := by simp
  obj := fun i h st b hb => by
    obtain ⟨⟨old, he⟩, hi⟩ := st
    rcases (show b = e ∨ b = it by simpa using hb) with z | z
    · rw [z]; exact ⟨_, he, fun v q => nomatch q⟩
    · rw [z]; exact si_get hi
  keep := fun i h h' st q => let ⟨⟨old, he⟩, hi⟩ := st; ⟨⟨old, q e (by simp) _ he⟩, si_stay hi fun o z => q it (by simp) o z⟩
  item := by
    intro X hP hw hK hc i pins s σ H E I hf st hg
    subst hP hw hK
    obtain ⟨⟨old, he⟩, hit⟩ := st
    obtain ⟨xs, x, hq, hx⟩ := hg
    obtain ⟨its, rv, p⟩ := sq_val I hq
    obtain ⟨u, hu, ru⟩ := rv.get hx
    have hlt : i < its.toArray.size := by
      have := (List.getElem?_eq_some_iff.mp hu).1
      simpa using this
    have W := GoesN.enumFrom (elts := elts) (x1 := kk) (pos := tpos) (0 : Int) (drawsK (P := X.prog) (w := X.w) (A := X.A.in1) (I.ok.hd hc) k it a hai its.toArray) e hne (by simp [hne, Ne.symm hae]) (by simp)
    refine W.goes i s _ E hlt ⟨⟨old, by rw [Int.zero_add]; exact he⟩, hit, p⟩ fun v h' tk hY st' hk htk => ?_
    obtain ⟨T, t, y, rfl, hT, hy, hTT⟩ := hY
    have ey : y = u := by
      have h1 : its.toArray[i]? = some u := by simpa using hu
      exact Option.some.inj (hy.symm.trans h1)
    subst ey
    rw [Int.zero_add] at hTT
    obtain ⟨oT, eT, cT, nT, dT⟩ := hTT
    have new : ObjOk X.prog X.w (upd H T (.tup [.int (i : Nat), x])) h' T (.tup [.int (i : Nat), x]) :=
      ⟨by show 2 ≤ sizeLine; decide, [.int i t, y], .cons ⟨_, rfl⟩ (.cons ru .nil), ⟨oT, eT, cT, nT, dT⟩⟩
    have I1 : Inv X pins σ (upd H T (.tup [.int (i : Nat), x])) { s with heap := h', toks := tk } :=
      I.turnedNew (ch := [e, it]) (fun b ob hb q => hk b ob hb q) hf hT new
    obtain ⟨⟨old', he'⟩, hit', _⟩ := st'
    refine ⟨.ref T, _, I1, rfl, ⟨T, x, rfl, I.hok.fresh hT, rfl, fun ys hy => by rw [sq_inj I hy hq]; exact hx⟩, ⟨⟨old', ?_⟩, hit'⟩, fun b hb => ?_⟩
    · rw [Int.zero_add] at he'
      exact he'
    · have hb' : b < s.heap.objs.size := by
        rcases (show b = e ∨ b = it by simpa using hb) with z | z
        · rw [z]; exact Heap.lt_size he
        · rw [z]; obtain ⟨_, q, _⟩ := si_get hit; exact Heap.lt_size q
      rw [upd_ne (Nat.ne_of_lt (Nat.lt_of_lt_of_le hb' hT))]
      exact (hf b hb).1
  done := by
    intro X hP hw hK hc i pins s σ H E I hf st hg
    subst hP hw hK
    obtain ⟨⟨old, he⟩, hit⟩ := st
    obtain ⟨xs, hq, hx⟩ := hg
    obtain ⟨its, rv, p⟩ := sq_val I hq
    have hl : i = its.toArray.size := by rw [hx, rv.length]; simp
    subst hl
    have W := GoesN.enumFrom (elts := elts) (x1 := kk) (pos := tpos) (0 : Int) (drawsK (P := X.prog) (w := X.w) (A := X.A.in1) (I.ok.hd hc) k it a hai its.toArray) e hne (by simp [hne, Ne.symm hae]) (by simp)
    exact W.stops s _ E ⟨⟨old, by rw [Int.zero_add]; exact he⟩, hit, p⟩ fun h' tk hk htk => I.turnedL (t' := tk) (ch := [e, it]) (fun b ob hb q => hk b ob hb q) hf
  self := fun A i s Q E st h => let ⟨⟨_, he⟩, _⟩ := st; wpAny_pyIter_enum he h
theorem turn_zipK {elts : List Expr} {kk : Nat} {tpos : Pos} (k l : Bool) {a b z TI TO i1 i2 : Addr} (D : ZipSep2 z TI TO i1 i2 [i1, a] [i2, b]) (h1 : a ≠ i1) (h2 : b ≠ i2) :
    Turn P w K (.Tuple elts kk tpos) (ItZp K k l a b) [z, TI, TO, i1, i2] z (fun i h => IsZip h z TI TO .none ∧ IsTupOf2 h TI (.ref i1) (.ref i2) ∧ (∃ x y, IsTupOf2 h TO x y) ∧ SI h k i1 a i ∧ SI h l i2 b i) where
  mem := by simp
  obj := fun i h st c hc => by
    obtain ⟨hz, hTI, ⟨x, y, hTO⟩, q1, q2⟩ := st
    rcases (show c = z ∨ c = TI ∨ c = TO ∨ c = i1 ∨ c = i2 by simpa using hc) with q | q | q | q | q
    · rw [q]; exact ⟨_, hz, fun v q => nomatch q⟩
    · rw [q]; exact ⟨_, hTI, fun v q => nomatch q⟩
    · rw [q]; exact ⟨_, hTO, fun v q => nomatch q⟩
    · rw [q]; exact si_get q1
    · rw [q]; exact si_get q2
  keep := fun i h h' st q => by
    obtain ⟨hz, hTI, ⟨x, y, hTO⟩, q1, q2⟩ := st
    exact ⟨q z (by simp) _ hz, q TI (by simp) _ hTI, ⟨x, y, q TO (by simp) _ hTO⟩, si_stay q1 fun o e => q i1 (by simp) o e, si_stay q2 fun o e => q i2 (by simp) o e⟩
  item := by
    intro X hP hw hK hc i pins s σ H E I hf st hg
    subst hP hw hK
    obtain ⟨hz, hTI, ⟨x0, y0, hTO⟩, q1, q2⟩ := st
    obtain ⟨xs, ys, x, y, hqx, hqy, hx, hy⟩ := hg
    obtain ⟨its, rv, p⟩ := sq_val I hqx
    obtain ⟨its2, rv2, p2⟩ := sq_val I hqy
    obtain ⟨u, hu, ru⟩ := rv.get hx
    obtain ⟨u2, hu2, ru2⟩ := rv2.get hy
    have lt1 : i < its.length := (List.getElem?_eq_some_iff.mp hu).1
    have lt2 : i < its2.length := (List.getElem?_eq_some_iff.mp hu2).1
    have W := GoesN.zip2 (elts := elts) (x1 := kk) (pos := tpos) D (drawsK (P := X.prog) (w := X.w) (A := X.A.in1) (I.ok.hd hc) k i1 a h1 its.toArray) (drawsK (P := X.prog) (w := X.w) (A := X.A.in1) (I.ok.hd hc) l i2 b h2 its2.toArray)
    refine W.goes i s _ E (by simp; omega) ⟨hz, hTI, ⟨x0, y0, hTO⟩, ⟨q1, p⟩, ⟨q2, p2⟩⟩ fun v h' tk hY st' hk htk => ?_
    obtain ⟨T, u', u2', rfl, hT, hy1, hy2, hTT⟩ := hY
    have e1 : u' = u := Option.some.inj (hy1.symm.trans (by simpa using hu))
    have e2 : u2' = u2 := Option.some.inj (hy2.symm.trans (by simpa using hu2))
    subst e1
    subst e2
    obtain ⟨oT, eT, cT, nT, dT⟩ := hTT
    have new : ObjOk X.prog X.w (upd H T (.tup [x, y])) h' T (.tup [x, y]) := ⟨by show 2 ≤ sizeLine; decide, [u', u2'], .cons ru (.cons ru2 .nil), ⟨oT, eT, cT, nT, dT⟩⟩
    have I1 : Inv X pins σ (upd H T (.tup [x, y])) { s with heap := h', toks := tk } := I.turnedNew (ch := [z, TI, TO, i1, i2]) (fun c o hb q => hk c o (fun m => hb (by
      simp only [List.mem_cons, List.not_mem_nil, or_false] at m ⊢
      rcases m with m | m | m | m <;> simp [m])) q) hf hT new
    obtain ⟨hz', hTI', hTO', ⟨q1', _⟩, ⟨q2', _⟩⟩ := st'
    refine ⟨.ref T, _, I1, rfl, ⟨T, x, y, rfl, I.hok.fresh hT, rfl, fun l hl => by rw [sq_inj I hl hqx]; exact hx, fun l hl => by rw [sq_inj I hl hqy]; exact hy⟩, ⟨hz', hTI', hTO', q1', q2'⟩, fun c hcm => ?_⟩
    have hlt : c < s.heap.objs.size := by
      rcases (show c = z ∨ c = TI ∨ c = TO ∨ c = i1 ∨ c = i2 by simpa using hcm) with q | q | q | q | q
      · rw [q]; exact Heap.lt_size hz
      · rw [q]; exact Heap.lt_size hTI
      · rw [q]; exact Heap.lt_size hTO
      · rw [q]; obtain ⟨_, e1, _⟩ := si_get q1; exact Heap.lt_size e1
      · rw [q]; obtain ⟨_, e2, _⟩ := si_get q2; exact Heap.lt_size e2
    rw [upd_ne (Nat.ne_of_lt (Nat.lt_of_lt_of_le hlt hT))]
    exact (hf c hcm).1
  done := by
    intro X hP hw hK hc i pins s σ H E I hf st hg
    subst hP hw hK
    obtain ⟨hz, hTI, ⟨x0, y0, hTO⟩, q1, q2⟩ := st
    obtain ⟨xs, ys, hqx, hqy, hend⟩ := hg
    obtain ⟨its, rv, p⟩ := sq_val I hqx
    obtain ⟨its2, rv2, p2⟩ := sq_val I hqy
    have hl : i = min its.toArray.size its2.toArray.size := by rw [hend, rv.length, rv2.length]; simp
    subst hl
    have W := GoesN.zip2 (elts := elts) (x1 := kk) (pos := tpos) D (drawsK (P := X.prog) (w := X.w) (A := X.A.in1) (I.ok.hd hc) k i1 a h1 its.toArray) (drawsK (P := X.prog) (w := X.w) (A := X.A.in1) (I.ok.hd hc) l i2 b h2 its2.toArray)
    exact W.stops s _ E ⟨hz, hTI, ⟨x0, y0, hTO⟩, ⟨q1, p⟩, ⟨q2, p2⟩⟩ fun h' tk hk htk => I.turnedL (t' := tk) (ch := [z, TI, TO, i1, i2]) (fun c o hb q => hk c o (fun m => hb (by
      simp only [List.mem_cons, List.not_mem_nil, or_false] at m ⊢
      rcases m with m | m | m | m <;> simp [m])) q) hf
  self := fun A i s Q E st h => wpAny_pyIter_zip st.1 h
end
open AutoSeq1 in
set_option maxHeartbeats 1000000 in
theorem meets_enum1 {v : Value} {o : Obj} {H : Heap → Prop} (B : Begins v o H) :
    Meets (Builtin.«enumerate.__new__» ⟨[.type "enumerate", v], []⟩) (fun _ R s => H s.heap ∧ R (.ok (.ret (.ref (s.heap.push o).objs.size))) { s with heap := (s.heap.push o).push { cls := .type "enumerate", data := .fields #[.none, .bool false, .ref s.heap.objs.size, rawInt 0, .none, .none] } }) := by
  apply Meets.of_wp
  intro prog w A R s h
  obtain ⟨hp, g, d, tk, os⟩ := s
  obtain ⟨h1, h⟩ := h
  have hsub := sub_enumerate
  have q1 : ∀ {A2 : Around} {E2 : Value → Shared → Prop} {Q2 : Value → Shared → Prop}, Q2 (.ref hp.objs.size) ⟨hp.push o, g, d, tk, os⟩ → wpAny (model prog w) A2 (pyIter v) Q2 E2 ⟨hp, g, d, tk, os⟩ := fun q => B.iter prog w _ _ ⟨hp, g, d, tk, os⟩ _ h1 q
  wp_walk using q1
  apply wpAny_stack_any
  intro st
  apply wpAny_pure
  split
  · rename_i c _ _ _ _ _
    cases (c == Value.type "enumerate") <;> (wp_walk using q1; exact ⟨_, rfl, h⟩)
  · wp_walk using q1
    exact ⟨_, rfl, h⟩
theorem enum1 {prog : Program} {w : World} {A : Around} {E : Value → Shared → Prop} {s : Shared} {v : Value} {o : Obj} {H : Heap → Prop} {Q : Value → Shared → Prop} (B : Begins v o H) (h1 : H s.heap)
    (h : ∀ h', IsEnum h' (s.heap.objs.size + 1) s.heap.objs.size 0 .none → h'.get? s.heap.objs.size = some o → (∀ b o, s.heap.get? b = some o → h'.get? b = some o) → Q (.ref (s.heap.objs.size + 1)) { s with heap := h' }) :
    wpAny (model prog w) A (call (.type "enumerate") [v]) Q E s := by
  refine callType_new F.called_enumerate (by decide) (F.typeCall_enumerate_1 _) (F.newCall_enumerate_1 _) (fun obj => F.args_object_init_2 obj _) F.entry_enumerate_new (meets_enum1 B) ⟨h1, ?_⟩
  have hz : (s.heap.push o).objs.size = s.heap.objs.size + 1 := Heap.size_push _ _
  show _ ∧ _
  rw [hz]
  have he : IsEnum ((s.heap.push o).push { cls := .type "enumerate", data := .fields #[.none, .bool false, .ref s.heap.objs.size, rawInt 0, .none, .none] }) (s.heap.objs.size + 1) s.heap.objs.size 0 .none := by
    have q := Heap.get?_push_size (s.heap.push o) (o := { cls := .type "enumerate", data := .fields #[.none, .bool false, .ref s.heap.objs.size, rawInt 0, .none, .none] }) rfl
    rw [hz] at q
    exact q
  exact ⟨⟨_, he, rfl⟩, h _ he (Heap.get?_push_of_some _ (Heap.get?_push_size _ B.free)) fun b u x => Heap.get?_push_of_some _ (Heap.get?_push_of_some _ x)⟩
section
variable {X : Cx} {tg : Expr}
/-- the thing walked: a list or a tuple, by its kind -/
def iSeq (K : PySem.W.Frag) (tl : TE) : TI := fun σ H R' => tl σ H fun x H1 => ∃ k a, x = .ref a ∧ (∃ xs, SQ K H1 k a xs) ∧ R' (ItS K k a) H1
theorem pi_seq {e : Expr} {tl : TE} (hl : PE X e tl) : PI X tg e (iSeq X.K tl) := by
  constructor
  intro pins s σ H R' I h
  refine thn (hl.run pins s σ H _ I h) ?_
  rintro v s1 ⟨x, H1, I1, r1, k, a, rfl, ⟨xs, hq⟩, q⟩
  obtain rfl : v = Value.ref a := r1
  have fp1 : ∀ b, b ∈ [s1.heap.objs.size] → FpOk X pins H1 b := fun b hb => by
    rw [List.mem_singleton.mp hb]
    exact I1.fpOk (Nat.le_refl _) (I1.hok.fresh (Nat.le_refl _))
  cases k with
  | true =>
    obtain ⟨its, rv, p, hz⟩ := I1.list hq
    exact wpAny_pyIter_list p.isList ⟨_, [_], _, _, H1, rfl, I1.kept (t' := s1.toks) fun b o z => Heap.get?_push_of_some _ z, turn_list a _, ⟨_, Heap.get?_push_size _ rfl, rfl, rfl⟩, fp1, q⟩
  | false =>
    obtain ⟨its, rv, p, hz⟩ := I1.tuple hq
    exact wpAny_pyIter_tuple (show s1.heap.IsTuple a its.toArray from p) ⟨_, [_], _, _, H1, rfl, I1.kept (t' := s1.toks) fun b o z => Heap.get?_push_of_some _ z, turn_tuple a _, ⟨_, Heap.get?_push_size _ rfl, rfl, rfl⟩, fp1, q⟩
def iEnS (K : PySem.W.Frag) (ta : TA) : TI := fun σ H R' => ta σ H fun vs H1 => ∃ k a, vs = [.ref a] ∧ (∃ xs, SQ K H1 k a xs) ∧ R' (ItEn K k a) H1
theorem pi_enS {e : Expr} {ta : TA} {p pos tpos : Pos} {elts : List Expr} {kk : Nat} (hg : Gl X "enumerate") (hm : X.mg "enumerate" = none) (ha : PA X [e] ta) (hs : starEach [e] X.env = [(false, eval e X.env)] := by rfl) :
    PI X (.Tuple elts kk tpos) (.Call (.Name "enumerate" p) [e] [] pos) (iEnS X.K ta) := by
  constructor
  intro pins s σ H R' I h
  refine Call_ (ld_blt I hg hm boot_enumerate (PyProof.Rows.callWith_type1 (thn (ha.run pos pins s σ H _ I h) ?_) hs rfl))
  rintro us s1 ⟨vs, H1, I1, r1, k, a, rfl, ⟨xs, hq⟩, q⟩
  match us, r1 with
  | [_], .cons r .nil =>
    obtain rfl := (show _ = Value.ref a from r)
    obtain ⟨its, rv, p'⟩ := sq_val I1 hq
    have la := sv_lt p'
    have fresh2 : ∀ b, b ∈ [s1.heap.objs.size + 1, s1.heap.objs.size] → FpOk X pins H1 b := fun b hb => by
      have hle : s1.heap.objs.size ≤ b := by
        rcases (show b = s1.heap.objs.size + 1 ∨ b = s1.heap.objs.size by simpa using hb) with z | z
        · rw [z]; exact Nat.le_add_right _ _
        · rw [z]; exact Nat.le_refl _
      exact I1.fpOk hle (I1.hok.fresh hle)
    have body : ∀ h', IsEnum h' (s1.heap.objs.size + 1) s1.heap.objs.size 0 .none → h'.get? s1.heap.objs.size = some (itO k a) → (∀ b o, s1.heap.get? b = some o → h'.get? b = some o) →
        wpAny (model X.prog X.w) X.A (pyIter (.ref (s1.heap.objs.size + 1))) (PIE X pins σ (.Tuple elts kk tpos) R') X.xe { s1 with heap := h' } := fun h' he hit hk => by
      refine wpAny_pyIter_enum he ⟨s1.heap.objs.size + 1, [s1.heap.objs.size + 1, s1.heap.objs.size], _, _, H1, rfl, I1.kept (t' := s1.toks) hk, turn_enumK k (Nat.succ_ne_self _) (Nat.ne_of_lt (Nat.lt_succ_of_lt la)) (Nat.ne_of_lt la), ⟨⟨.none, he⟩, si_new hit⟩, fresh2, q⟩
    exact enum1 (beginsK k a its.toArray) p' body
def iZpS (K : PySem.W.Frag) (ta : TA) : TI := fun σ H R' => ta σ H fun vs H1 => ∃ k l a b, vs = [.ref a, .ref b] ∧ (∃ xs, SQ K H1 k a xs) ∧ (∃ ys, SQ K H1 l b ys) ∧ R' (ItZp K k l a b) H1
theorem pi_zpS {e e2 : Expr} {ta : TA} {p pos tpos : Pos} {elts : List Expr} {kk : Nat} (hg : Gl X "zip") (hm : X.mg "zip" = none) (ha : PA X [e, e2] ta)
    (hs : starEach [e, e2] X.env = (false, eval e X.env) :: starEach [e2] X.env := by rfl) (hpl : (backTo pos (starEach [e2] X.env)).any (·.1) = false := by rfl) :
    PI X (.Tuple elts kk tpos) (.Call (.Name "zip" p) [e, e2] [] pos) (iZpS X.K ta) := by
  constructor
  intro pins s σ H R' I h
  refine Call_ (ld_blt I hg hm PyProof.Rows.boot_zip (PyProof.Rows.callWith_type1 (thn (ha.run pos pins s σ H _ I h) ?_) hs hpl))
  rintro us s1 ⟨vs, H1, I1, r1, k, l, a, b, rfl, ⟨xs, hqx⟩, ⟨ys, hqy⟩, q⟩
  match us, r1 with
  | [_, _], .cons r (.cons r2 .nil) =>
    obtain rfl := (show _ = Value.ref a from r)
    obtain rfl := (show _ = Value.ref b from r2)
    obtain ⟨its, rv, p1⟩ := sq_val I1 hqx
    obtain ⟨its2, rv2, p2⟩ := sq_val I1 hqy
    have la := sv_lt p1
    have lb := sv_lt p2
    refine zip_begins2 (beginsK k a its.toArray) (beginsK l b its2.toArray) p1 p2 fun h' hz hTI hTO e1 e2 hsz hk => wpAny_pyIter_zip hz ?_
    have D : ZipSep2 (s1.heap.objs.size + 4) (s1.heap.objs.size + 2) (s1.heap.objs.size + 3) s1.heap.objs.size (s1.heap.objs.size + 1) [s1.heap.objs.size, a] [s1.heap.objs.size + 1, b] := zip_sep2 (by simpa using la) (by simpa using lb)
    refine ⟨s1.heap.objs.size + 4, [s1.heap.objs.size + 4, s1.heap.objs.size + 2, s1.heap.objs.size + 3, s1.heap.objs.size, s1.heap.objs.size + 1], _, _, H1, rfl, I1.kept (t' := s1.toks) hk, turn_zipK k l D (Nat.ne_of_lt la) (Nat.ne_of_lt (Nat.lt_succ_of_lt lb)), ⟨hz, hTI, ⟨_, _, hTO⟩, si_new e1, si_new e2⟩, fun c hcm => ?_, q⟩
    have hle : s1.heap.objs.size ≤ c := by
      rcases (show c = s1.heap.objs.size + 4 ∨ c = s1.heap.objs.size + 2 ∨ c = s1.heap.objs.size + 3 ∨ c = s1.heap.objs.size ∨ c = s1.heap.objs.size + 1 by simpa using hcm) with z | z | z | z | z <;> rw [z] <;> first | exact Nat.le_refl _ | exact Nat.le_add_right _ _
    exact I1.fpOk hle (I1.hok.fresh hle)
end
end Dl
end
section
namespace Dl
open PySem PySem.Spec PyProof.Rows L2
structure Feeds (K : PySem.W.Frag) (J : It) (n : Nat) (it : Nat → PyData) (S : Ent) : Prop where
  step : ∀ {G0 H : Hp} {L : Ent} {i : Nat}, R K G0 H (S ++ L) → i < n → J.go i H ∧ ∀ x H', J.yld i H x H' → R K G0 H' ((x, .fz (it i)) :: (S ++ L))
  stop : ∀ {G0 H : Hp} {L : Ent}, R K G0 H (S ++ L) → J.stop n H
abbrev TId := Gm → (Nat → (Nat → PyData) → Gm → Prop) → Prop
def liftI (K : PySem.W.Frag) (τ : TId) : TI := fun σ H R' => ∃ G0 Γ T F Kt, Rel K G0 T F σ H Γ ∧ τ Γ Kt ∧ ∀ n it Γ' J S H', Kt n it Γ' → Feeds K J n it S → Rel K G0 T (S ++ F) σ H' Γ' → R' J H'
abbrev DI (X : Cx) (tg e : Expr) (τ : TId) : Prop := PI X tg e (liftI X.K τ)
theorem piI {X : Cx} {tg e : Expr} {t t' : TI} (h : PI X tg e t) (f : ∀ σ H Q, t' σ H Q → t σ H Q) : PI X tg e t' := ⟨fun pins s σ H Q I q => h.run pins s σ H Q I (f σ H Q q)⟩
section
variable {K : PySem.W.Frag} {G0 H H' : Hp} {T F S : Ent} {σ : Sl} {Γ : Gm} {v w : V} {o p : O} {d e : PyData} {i : Nat} {ds es : List PyData}
/-- items of a list or a tuple -/
def itemsOf : PyData → Option (Bool × List PyData)
  | .list ds => some (true, ds)
  | .tuple ds => some (false, ds)
  | _ => none
theorem R.seq {L : Ent} {k : Bool} (r : R K G0 H ((v, .fz d) :: L)) (h : itemsOf d = some (k, ds)) : ∃ a vs, v = .ref a ∧ SQ K H k a vs ∧ vs.length = ds.length ∧ R K G0 H (fzs vs ds ++ ((v, .fz d) :: L)) := by
  cases d with
  | list xs =>
    cases h
    obtain ⟨a, vs, h1, h2, h3, h4⟩ := r.items
    exact ⟨a, vs, h1, SqL.of h2, h3, h4⟩
  | tuple xs => cases h; exact r.itemsT
  | none => cases h
  | bool _ => cases h
  | int _ => cases h
  | str _ => cases h
  | dict _ => cases h
theorem fzs_get : ∀ {vs : List V} {ds : List PyData} {i : Nat} {v : V} {L : Ent}, vs.length = ds.length → vs[i]? = some v → R K G0 H (fzs vs ds ++ L) → R K G0 H ((v, .fz (ds.getD i .none)) :: L)
  | [], [], i, v, L, _, h, _ => by simp at h
  | u :: vs, d :: ds, 0, v, L, hl, h, r => by
    have e : u = v := by simpa using h
    subst e
    have r2 : R K G0 H (fzs vs ds ++ ((u, .fz d) :: L)) := r.perm (List.perm_middle (l₁ := fzs vs ds) (l₂ := L) (a := (u, O.fz d))).symm
    have q : ∀ {M : Ent} {L : Ent}, R K G0 H (M ++ L) → R K G0 H L := fun {M} => by
      induction M with
      | nil => exact fun r => r
      | cons x M ih => exact fun r => ih (R.tail (v := x.1) (o := x.2) r)
    exact q r2
  | u :: vs, d :: ds, i + 1, v, L, hl, h, r => fzs_get (vs := vs) (ds := ds) (i := i) (Nat.succ.inj hl) (by simpa using h) (R.tail r)
  | [], _ :: _, _, _, _, hl, _, _ => by cases hl
  | _ :: _, [], _, _, _, hl, _, _ => by cases hl
theorem R.dropL {M L : Ent} (r : R K G0 H (M ++ L)) : R K G0 H L := by
  induction M with
  | nil => exact r
  | cons x M ih => exact ih (R.tail (v := x.1) (o := x.2) r)
theorem feeds_seq {k : Bool} {a : Addr} (h : itemsOf d = some (k, ds)) : Feeds K (ItS K k a) ds.length (fun i => ds.getD i .none) [(.ref a, .fz d)] where
  step := fun {G0 H L i} r hi => by
    obtain ⟨a', vs, e, hq, hl, r2⟩ := R.seq r h
    cases e
    have hv : vs[i]? = some vs[i] := List.getElem?_eq_getElem (by omega)
    have out : ∀ x, (∀ xs, SQ K H k a xs → xs[i]? = some x) → R K G0 H ((x, .fz (ds.getD i .none)) :: ([(.ref a, .fz d)] ++ L)) := fun x y => fzs_get hl (y vs hq) r2
    cases k with
    | true => exact ⟨⟨vs, _, hq, hv⟩, fun x H' y => by obtain ⟨e, y⟩ := y; subst e; exact out x y⟩
    | false => exact ⟨⟨vs, _, hq, hv⟩, fun x H' y => by obtain ⟨e, y⟩ := y; subst e; exact out x y⟩
  stop := fun {G0 H L} r => by
    obtain ⟨a', vs, e, hq, hl, r2⟩ := R.seq r h
    cases e
    cases k with
    | true => exact ⟨vs, hq, by omega⟩
    | false => exact ⟨vs, hq, by omega⟩
theorem feeds_range {lo : Int} {n : Nat} : Feeds K (Itr lo n) n (fun i => .int (lo + i)) [] where
  step := fun {G0 H L i} r hi => ⟨hi, fun x H' ⟨e, y⟩ => by
    subst e y
    exact R.add r fun _ => .int _⟩
  stop := fun {G0 H L} r => Nat.le_refl _
theorem feeds_enum {k : Bool} {a : Addr} (h : itemsOf d = some (k, ds)) : Feeds K (ItEn K k a) ds.length (fun i => .tuple [.int i, ds.getD i .none]) [(.ref a, .fz d)] where
  step := fun {G0 H L i} r hi => by
    obtain ⟨a', vs, e, hq, hl, r2⟩ := R.seq r h
    cases e
    have hv : vs[i]? = some vs[i] := List.getElem?_eq_getElem (by omega)
    refine ⟨⟨vs, _, hq, hv⟩, fun x H' y => ?_⟩
    obtain ⟨T, y, rfl, hT, rfl, hy⟩ := y
    have r3 := fzs_get hl (hy vs hq) r2
    exact R.tuple (vs := [.int (i : Nat), y]) (ds := [.int i, ds.getD i .none]) (r3.add fun _ => .int _) rfl hT
  stop := fun {G0 H L} r => by
    obtain ⟨a', vs, e, hq, hl, r2⟩ := R.seq r h
    cases e
    exact ⟨vs, hq, hl.symm⟩
theorem feeds_zip {k l : Bool} {a b : Addr} (h : itemsOf d = some (k, ds)) (h' : itemsOf e = some (l, es)) : Feeds K (ItZp K k l a b) (min ds.length es.length) (fun i => .tuple [ds.getD i .none, es.getD i .none]) [(.ref a, .fz d), (.ref b, .fz e)] where
  step := fun {G0 H L i} r hi => by
    obtain ⟨a', vs, e1, hq, hl, r2⟩ := R.seq r h
    cases e1
    have r0 : R K G0 H ((.ref b, .fz e) :: ((.ref a, .fz d) :: L)) := r.perm (.swap _ _ _)
    obtain ⟨b', us, e2, hq2, hl2, _⟩ := R.seq r0 h'
    cases e2
    have hv : vs[i]? = some vs[i] := List.getElem?_eq_getElem (by omega)
    have hu : us[i]? = some us[i] := List.getElem?_eq_getElem (by omega)
    refine ⟨⟨vs, us, _, _, hq, hq2, hv, hu⟩, fun x H' y => ?_⟩
    obtain ⟨T, y1, y2, rfl, hT, rfl, hy1, hy2⟩ := y
    have r3 := fzs_get hl (hy1 vs hq) r2
    have r4 : R K G0 H ((.ref b, .fz e) :: ((y1, .fz (ds.getD i .none)) :: ((.ref a, .fz d) :: L))) := r3.perm ((List.Perm.cons _ (.swap _ _ _)).trans (.swap _ _ _))
    obtain ⟨b', us', e2, hq3, hl3, r5⟩ := R.seq r4 h'
    cases e2
    have r6 := fzs_get hl3 (hy2 us' hq3) r5
    have r7 : R K G0 H ((y1, .fz (ds.getD i .none)) :: (y2, .fz (es.getD i .none)) :: ((.ref a, .fz d) :: (.ref b, .fz e) :: L)) := r6.perm (((List.Perm.swap _ _ _).cons _).trans (((List.Perm.swap _ _ _)).trans (.cons _ (.cons _ (.swap _ _ _)))))
    exact R.tuple (vs := [y1, y2]) (ds := [ds.getD i .none, es.getD i .none]) r7 rfl hT
  stop := fun {G0 H L} r => by
    obtain ⟨a', vs, e1, hq, hl, r2⟩ := R.seq r h
    cases e1
    have r0 : R K G0 H ((.ref b, .fz e) :: ((.ref a, .fz d) :: L)) := r.perm (.swap _ _ _)
    obtain ⟨b', us, e2, hq2, hl2, _⟩ := R.seq r0 h'
    cases e2
    exact ⟨vs, us, hq, hq2, by rw [hl, hl2]⟩
/-- several values at hand as data that stands still -/
def escs : Gm → List O → (List PyData → Gm → Prop) → Prop
  | Γ, [], k => k [] Γ
  | Γ, o :: os, k => esc Γ o fun d Γ1 => escs Γ1 os fun ds Γ2 => k (d :: ds) Γ2
theorem Rel.toF (r : Rel K G0 ((v, .fz d) :: T) F σ H Γ) : Rel K G0 T ((v, .fz d) :: F) σ H Γ := ⟨r.fit, r.al.tail, r.r.perm (by
  rw [List.cons_append]
  have q : (T ++ (ents σ Γ ++ (v, O.fz d) :: F)).Perm ((v, O.fz d) :: (T ++ (ents σ Γ ++ F))) := by
    rw [← List.append_assoc, ← List.append_assoc]
    exact List.perm_middle
  exact q.symm)⟩
theorem Rel.ofF (r : Rel K G0 T ((v, .fz d) :: F) σ H Γ) : Rel K G0 ((v, .fz d) :: T) F σ H Γ := ⟨r.fit, r.al.cons (fun _ z => nomatch z), r.r.perm (by
  rw [List.cons_append]
  have q : (T ++ (ents σ Γ ++ (v, O.fz d) :: F)).Perm ((v, O.fz d) :: (T ++ (ents σ Γ ++ F))) := by
    rw [← List.append_assoc, ← List.append_assoc]
    exact List.perm_middle
  exact q)⟩
theorem Rel.escapes : ∀ {vs : List V} {os : List O} {k : List PyData → Gm → Prop} {Γ : Gm} {T F : Ent}, vs.length = os.length → Rel K G0 (vs.zip os ++ T) F σ H Γ → escs Γ os k → ∃ ds Γ', k ds Γ' ∧ vs.length = ds.length ∧ Rel K G0 (fzs vs ds ++ T) F σ H Γ'
  | [], [], k, Γ, T, F, _, r, h => ⟨[], Γ, h, rfl, r⟩
  | v :: vs, o :: os, k, Γ, T, F, e, r, h => by
    obtain ⟨d, Γ1, h1, r1⟩ := Rel.escape (T := vs.zip os ++ T) r h
    obtain ⟨ds, Γ2, h2, l2, r2⟩ := Rel.escapes (Nat.succ.inj e) r1.toF h1
    exact ⟨d :: ds, Γ2, h2, congrArg (· + 1) l2, r2.ofF⟩
  | [], _ :: _, _, _, _, _, e, _, _ => by cases e
  | _ :: _, [], _, _, _, _, e, _, _ => by cases e
end
section
variable {X : Cx} {tg : Expr} {τ : TEd} {τs : TAd}
/-- for .. in a list or a tuple -/
def dSeqI (τ : TEd) : TId := fun Γ Kt => τ Γ fun o Γ1 => esc Γ1 o fun d Γ2 => match itemsOf d with
  | some (_, ds) => Kt ds.length (fun i => ds.getD i .none) Γ2
  | none => False
theorem di_seq {e : Expr} (h : DE X e τ) : DI X tg e (dSeqI τ) := piI (pi_seq h) fun σ H Q ⟨G0, Γ, T, F, Kt, R1, k, q⟩ => ⟨G0, Γ, T, F, _, R1, k, fun o Γ1 v H1 k1 R2 => by
  obtain ⟨d, Γ2, k2, R3⟩ := R2.escape k1
  cases hi : itemsOf d with
  | none => rw [hi] at k2; exact k2.elim
  | some p =>
    obtain ⟨kd, ds⟩ := p
    rw [hi] at k2
    obtain ⟨a, vs, rfl, hq, hl, _⟩ := R.seq R3.r hi
    exact ⟨kd, a, rfl, ⟨vs, hq⟩, q _ _ _ _ [(.ref a, .fz d)] _ k2 (feeds_seq hi) R3.toF⟩⟩
def inR (j : Int) : Prop := -(2 ^ 62) ≤ j ∧ j < 2 ^ 62
def dRng1 (τs : TAd) : TId := fun Γ Kt => τs Γ fun os Γ1 => match os with
  | [.fz (.int j)] => inR j ∧ Kt j.toNat (fun i => .int (0 + i)) Γ1
  | _ => False
theorem di_range1 {a : Expr} {p pos : Pos} (hg : Gl X "range") (hm : X.mg "range" = none) (ha : DA X [a] τs) (hs : starEach [a] X.env = [(false, eval a X.env)] := by rfl) : DI X tg (.Call (.Name "range" p) [a] [] pos) (dRng1 τs) :=
  piI (pi_range1 hg hm ha hs) fun σ H Q ⟨G0, Γ, T, F, Kt, R1, k, q⟩ => ⟨G0, Γ, T, F, _, R1, k, fun os Γ1 vs H1 k1 hl R2 => by
    split at k1
    · match vs, hl with
      | [v], _ =>
        obtain rfl := R.int R2.r
        exact ⟨_, rfl, k1.1.1, k1.1.2, q _ _ Γ1 _ [] H1 k1.2 feeds_range R2.drop⟩
    · exact k1.elim⟩
def dRng2 (τs : TAd) : TId := fun Γ Kt => τs Γ fun os Γ1 => match os with
  | [.fz (.int i), .fz (.int j)] => (inR i ∧ inR j) ∧ Kt (j - i).toNat (fun m => .int (i + m)) Γ1
  | _ => False
def dEnI (τs : TAd) : TId := fun Γ Kt => τs Γ fun os Γ1 => escs Γ1 os fun ds Γ2 => match ds with
  | [d] => match itemsOf d with
    | some (_, es) => Kt es.length (fun i => .tuple [.int i, es.getD i .none]) Γ2
    | none => False
  | _ => False
theorem di_enum {e : Expr} {p pos tpos : Pos} {elts : List Expr} {kk : Nat} (hg : Gl X "enumerate") (hm : X.mg "enumerate" = none) (ha : DA X [e] τs) (hs : starEach [e] X.env = [(false, eval e X.env)] := by rfl) :
    DI X (.Tuple elts kk tpos) (.Call (.Name "enumerate" p) [e] [] pos) (dEnI τs) := piI (pi_enS hg hm ha hs) fun σ H Q ⟨G0, Γ, T, F, Kt, R1, k, q⟩ => ⟨G0, Γ, T, F, _, R1, k, fun os Γ1 vs H1 k1 hl R2 => by
  obtain ⟨ds, Γ2, k2, l2, R3⟩ := Rel.escapes hl R2 k1
  match ds, vs, l2, k2, R3 with
  | [d], [v], _, k2, R3 =>
    have k2 : (match itemsOf d with | some (_, es) => Kt es.length (fun i => .tuple [.int i, es.getD i .none]) Γ2 | none => False) := k2
    cases hi : itemsOf d with
    | none => rw [hi] at k2; exact k2.elim
    | some p =>
      obtain ⟨kd, es⟩ := p
      rw [hi] at k2
      obtain ⟨a, us, rfl, hq, _, _⟩ := R.seq R3.r hi
      exact ⟨kd, a, rfl, ⟨us, hq⟩, q _ _ _ _ [(.ref a, .fz d)] _ k2 (feeds_enum hi) (Rel.toF (T := T) R3)⟩
  | [], _, _, k2, _ => exact k2.elim
  | _ :: _ :: _, _, _, k2, _ => exact k2.elim⟩
def dZpI (τs : TAd) : TId := fun Γ Kt => τs Γ fun os Γ1 => escs Γ1 os fun ds Γ2 => match ds with
  | [d, e] => match itemsOf d, itemsOf e with
    | some (_, xs), some (_, ys) => Kt (min xs.length ys.length) (fun i => .tuple [xs.getD i .none, ys.getD i .none]) Γ2
    | _, _ => False
  | _ => False
theorem di_zip {e e2 : Expr} {p pos tpos : Pos} {elts : List Expr} {kk : Nat} (hg : Gl X "zip") (hm : X.mg "zip" = none) (ha : DA X [e, e2] τs)
    (hs : starEach [e, e2] X.env = (false, eval e X.env) :: starEach [e2] X.env := by rfl) (hpl : (backTo pos (starEach [e2] X.env)).any (·.1) = false := by rfl) :
    DI X (.Tuple elts kk tpos) (.Call (.Name "zip" p) [e, e2] [] pos) (dZpI τs) := piI (pi_zpS hg hm ha hs hpl) fun σ H Q ⟨G0, Γ, T, F, Kt, R1, k, q⟩ => ⟨G0, Γ, T, F, _, R1, k, fun os Γ1 vs H1 k1 hl R2 => by
  obtain ⟨ds, Γ2, k2, l2, R3⟩ := Rel.escapes hl R2 k1
  match ds, vs, l2, k2, R3 with
  | [d, e'], [v, w], _, k2, R3 =>
    have k2 : (match itemsOf d, itemsOf e' with | some (_, xs), some (_, ys) => Kt (min xs.length ys.length) (fun i => .tuple [xs.getD i .none, ys.getD i .none]) Γ2 | _, _ => False) := k2
    cases hi : itemsOf d with
    | none => rw [hi] at k2; exact k2.elim
    | some p =>
      obtain ⟨kd, xs⟩ := p
      cases hj : itemsOf e' with
      | none => rw [hi, hj] at k2; exact k2.elim
      | some p' =>
        obtain ⟨ke, ys⟩ := p'
        rw [hi, hj] at k2
        obtain ⟨a, us, rfl, hq, _, _⟩ := R.seq R3.r hi
        have R4 : Rel X.K G0 ((w, .fz e') :: T) ((.ref a, .fz d) :: F) σ H1 Γ2 := Rel.toF (T := (w, .fz e') :: T) R3
        obtain ⟨b, us2, rfl, hq2, _, _⟩ := R.seq R4.r hj
        have R5 := R4.toF
        refine ⟨kd, ke, a, b, rfl, ⟨us, hq⟩, ⟨us2, hq2⟩, q _ _ _ _ [(.ref a, .fz d), (.ref b, .fz e')] _ k2 (feeds_zip hi hj) ⟨R5.fit, R5.al, R5.r.perm ?_⟩⟩
        exact (List.Perm.append_left _ (List.Perm.append_left _ (.swap _ _ _)))
  | [], _, _, k2, _ => exact k2.elim
  | [_], _, _, k2, _ => exact k2.elim
  | _ :: _ :: _ :: _, _, _, k2, _ => exact k2.elim⟩
end
end Dl
end
section
namespace Dl
open PySem PySem.Spec PyProof.Rows L2
structure DEnds where
  nx : Gm → Prop
  rt : O → Gm → Prop
  bk : Gm → Prop := fun _ => False
  ct : Gm → Prop := fun _ => False
abbrev TSd := DEnds → Gm → Prop
structure Leads (K : PySem.W.Frag) (G0 : Hp) (F : Ent) (E : DEnds) (D : Ends) : Prop where
  nx : ∀ Γ σ H, E.nx Γ → Rel K G0 [] F σ H Γ → D.nx σ H
  rt : ∀ o Γ v σ H, (∀ i, o ≠ .al i) → E.rt o Γ → Rel K G0 [(v, o)] F σ H Γ → D.rt v H
  bk : ∀ Γ σ H, E.bk Γ → Rel K G0 [] F σ H Γ → D.bk σ H
  ct : ∀ Γ σ H, E.ct Γ → Rel K G0 [] F σ H Γ → D.ct σ H
def liftS (K : PySem.W.Frag) (τ : TSd) : TS := fun D σ H => ∃ G0 Γ F E, Rel K G0 [] F σ H Γ ∧ τ E Γ ∧ Leads K G0 F E D
abbrev DS (X : Cx) (st : Stmt) (τ : TSd) : Prop := PS X st (liftS X.K τ)
abbrev DSs (X : Cx) (st : List Stmt) (τ : TSd) : Prop := PSs X st (liftS X.K τ)
/-- the value at hand, its own name frozen where it is but another name -/
def fix1 (Γ : Gm) (o : O) (k : O → Gm → Prop) : Prop := match o with
  | .al i => esc Γ (.al i) fun d Γ1 => k (.fz d) Γ1
  | o => k o Γ
def fixN : Gm → List O → (List O → Gm → Prop) → Prop
  | Γ, [], k => k [] Γ
  | Γ, o :: os, k => fix1 Γ o fun o1 Γ1 => fixN Γ1 os fun o2 Γ2 => k (o1 :: o2) Γ2
section
variable {K : PySem.W.Frag} {G0 H H' : Hp} {T F S : Ent} {σ σ' : Sl} {Γ : Gm} {v w : V} {o p : O} {d e : PyData} {i : Nat} {ds es : List PyData}
theorem Rel.toF' (r : Rel K G0 ((v, o) :: T) F σ H Γ) : Rel K G0 T ((v, o) :: F) σ H Γ := ⟨r.fit, r.al.tail, r.r.perm (by
  rw [List.cons_append]
  have q : (T ++ (ents σ Γ ++ (v, o) :: F)).Perm ((v, o) :: (T ++ (ents σ Γ ++ F))) := by
    rw [← List.append_assoc, ← List.append_assoc]
    exact List.perm_middle
  exact q.symm)⟩
theorem Rel.ofF' (n : ∀ i, o ≠ .al i) (r : Rel K G0 T ((v, o) :: F) σ H Γ) : Rel K G0 ((v, o) :: T) F σ H Γ := ⟨r.fit, r.al.cons n, r.r.perm (by
  rw [List.cons_append]
  have q : (T ++ (ents σ Γ ++ (v, o) :: F)).Perm ((v, o) :: (T ++ (ents σ Γ ++ F))) := by
    rw [← List.append_assoc, ← List.append_assoc]
    exact List.perm_middle
  exact q)⟩
theorem Rel.fixed {k : O → Gm → Prop} (r : Rel K G0 ((v, o) :: T) F σ H Γ) (h : fix1 Γ o k) : ∃ o' Γ', k o' Γ' ∧ (∀ i, o' ≠ .al i) ∧ Rel K G0 ((v, o') :: T) F σ H Γ' := by
  cases o with
  | al i =>
    obtain ⟨d, Γ', h1, h2⟩ := r.escape (k := fun d Γ1 => k (.fz d) Γ1) h
    exact ⟨_, Γ', h1, (fun _ z => nomatch z), h2⟩
  | fz d => exact ⟨_, Γ, h, (fun _ z => nomatch z), r⟩
  | own ds => exact ⟨_, Γ, h, (fun _ z => nomatch z), r⟩
  | ol _ => exact ⟨_, Γ, h, (fun _ z => nomatch z), r⟩
  | box _ _ => exact ⟨_, Γ, h, (fun _ z => nomatch z), r⟩
  | any => exact ⟨_, Γ, h, (fun _ z => nomatch z), r⟩
  | dct _ => exact ⟨_, Γ, h, (fun _ z => nomatch z), r⟩
  | ob _ => exact ⟨_, Γ, h, (fun _ z => nomatch z), r⟩
theorem Rel.fixedN : ∀ {vs : List V} {os : List O} {k : List O → Gm → Prop} {Γ : Gm} {T F : Ent}, vs.length = os.length → Rel K G0 (vs.zip os ++ T) F σ H Γ → fixN Γ os k →
    ∃ os' Γ', k os' Γ' ∧ vs.length = os'.length ∧ (∀ o ∈ os', ∀ i, o ≠ .al i) ∧ Rel K G0 (vs.zip os' ++ T) F σ H Γ'
  | [], [], k, Γ, T, F, _, r, h => ⟨[], Γ, h, rfl, (fun o m => by simp at m), r⟩
  | v :: vs, o :: os, k, Γ, T, F, e, r, h => by
    obtain ⟨o1, Γ1, h1, n1, r1⟩ := Rel.fixed (T := vs.zip os ++ T) r h
    obtain ⟨os2, Γ2, h2, l2, n2, r2⟩ := Rel.fixedN (Nat.succ.inj e) r1.toF' h1
    refine ⟨o1 :: os2, Γ2, h2, congrArg (· + 1) l2, fun o m => ?_, r2.ofF' n1⟩
    rcases List.mem_cons.mp m with z | z
    · rw [z]; exact n1
    · exact n2 o z
  | [], _ :: _, _, _, _, _, e, _, _ => by cases e
  | _ :: _, [], _, _, _, _, e, _, _ => by cases e
theorem put_far : ∀ {Γ : Gm} {i : Nat} {o : Option O}, Γ.length ≤ i → put Γ i o = Γ
  | [], _, _, _ => rfl
  | x :: Γ, 0, _, h => by simp at h
  | x :: Γ, i + 1, o, h => congrArg (x :: ·) (put_far (Γ := Γ) (by simpa using h))
theorem fit_none : ∀ {σ : Sl} {Γ : Gm} {i : Nat}, Fit σ Γ → Fit σ (put Γ i none) ∧ ∃ M, (ents σ Γ).Perm (M ++ ents σ (put Γ i none))
  | [], [], _, _ => ⟨trivial, [], .refl _⟩
  | none :: σ, none :: Γ, 0, f => ⟨f, [], .refl _⟩
  | some w :: σ, none :: Γ, 0, f => ⟨f, [], .refl _⟩
  | some w :: σ, some u :: Γ, 0, f => ⟨f, [(w, u)], .refl _⟩
  | none :: σ, none :: Γ, i + 1, f => fit_none (σ := σ) (Γ := Γ) (i := i) f
  | some w :: σ, none :: Γ, i + 1, f => fit_none (σ := σ) (Γ := Γ) (i := i) f
  | some w :: σ, some u :: Γ, i + 1, f => by
    obtain ⟨h1, M, h2⟩ := fit_none (σ := σ) (Γ := Γ) (i := i) f
    exact ⟨h1, M, (h2.cons (w, u)).trans (List.perm_middle).symm⟩
  | none :: _, some _ :: _, _, f => f.elim
  | [], _ :: _, _, f => f.elim
  | none :: _, [], _, f => f.elim
  | some _ :: _, [], _, f => f.elim
/-- what slot i held is forgotten -/
theorem Rel.forget (i : Nat) (r : Rel K G0 T F σ H Γ) : Rel K G0 T F σ H (put Γ i none) := by
  obtain ⟨h1, M, h2⟩ := fit_none (i := i) r.fit
  refine ⟨h1, r.al, ?_⟩
  have q : (T ++ (ents σ Γ ++ F)).Perm (M ++ (T ++ (ents σ (put Γ i none) ++ F))) := by
    refine (List.Perm.append_left T (h2.append_right F)).trans ?_
    rw [List.append_assoc, ← List.append_assoc T M, ← List.append_assoc M T]
    exact (List.perm_append_comm).append_right _
  exact R.dropL (r.r.perm q)
/-- a store into slot i -/
theorem Rel.store (r : Rel K G0 [] ((v, o) :: F) σ H Γ) : Rel K G0 [] F (σ.set i (some v)) H (put Γ i (some o)) := by
  have hl := r.fit.len
  by_cases hi : i < Γ.length
  · have r1 := r.forget i
    obtain ⟨q1, q2⟩ := ents_in (v := v) (o := o) (i := i) r.fit hi
    refine ⟨q2, fun _ _ m => by simp at m, r1.r.perm ?_⟩
    show (ents σ (put Γ i none) ++ (v, o) :: F).Perm (ents (σ.set i (some v)) (put Γ i (some o)) ++ F)
    exact (List.perm_middle).trans (q1.symm.append_right F)
  · have e1 : put Γ i (some o) = Γ := put_far (Nat.le_of_not_lt hi)
    have e2 : σ.set i (some v) = σ := by rw [List.set_eq_of_length_le (by omega)]
    rw [e1, e2]
    refine ⟨r.fit, fun _ _ m => by simp at m, ?_⟩
    have q : (ents σ Γ ++ (v, o) :: F).Perm ((v, o) :: (ents σ Γ ++ F)) := List.perm_middle
    exact R.tail (r.r.perm q)
theorem Rel.swapF {x y : V × O} (r : Rel K G0 T (x :: y :: F) σ H Γ) : Rel K G0 T (y :: x :: F) σ H Γ := ⟨r.fit, r.al, r.r.perm (List.Perm.append_left T (List.Perm.append_left _ (.swap _ _ _)))⟩
theorem Rel.dropF (r : Rel K G0 T (S ++ F) σ H Γ) : Rel K G0 T F σ H Γ := by
  refine ⟨r.fit, r.al, ?_⟩
  have q1 : (ents σ Γ ++ (S ++ F)).Perm (S ++ (ents σ Γ ++ F)) := by
    rw [← List.append_assoc, ← List.append_assoc]
    exact List.perm_append_comm.append_right F
  have q : (T ++ (ents σ Γ ++ (S ++ F))).Perm (S ++ (T ++ (ents σ Γ ++ F))) := by
    have q2 : ∀ M : Ent, (T ++ (S ++ M)).Perm (S ++ (T ++ M)) := fun M => by
      rw [← List.append_assoc, ← List.append_assoc]
      exact List.perm_append_comm.append_right M
    exact (q1.append_left T).trans (q2 _)
  exact R.dropL (r.r.perm q)
end
section
variable {X : Cx} {st : Stmt} {rest : List Stmt} {t u : TSd} {τ : TEd} {τs : TAd} {τt : TTd} {pos : Pos} {e : Expr}
def dNext : TSd := fun E Γ => E.nx Γ
def dSeq (t u : TSd) : TSd := fun E Γ => t { E with nx := u E } Γ
theorem ds_nil : DSs X [] dNext := pssI pss_nil fun D σ H ⟨G0, Γ, F, E, R1, k, q⟩ => q.nx Γ σ H k R1
theorem ds_cons (h1 : DS X st t) (h2 : DSs X rest u) : DSs X (st :: rest) (dSeq t u) := pssI (pss_cons h1 h2) fun D σ H ⟨G0, Γ, F, E, R1, k, q⟩ =>
  ⟨G0, Γ, F, { E with nx := u E }, R1, k, ⟨fun Γ1 σ1 H1 k1 R2 => ⟨G0, Γ1, F, E, R2, k1, q⟩, q.rt, q.bk, q.ct⟩⟩
theorem ds_single (h1 : DS X st t) : DSs X [st] t := pss_one h1
def dBreak : TSd := fun E Γ => E.bk Γ
def dCont : TSd := fun E Γ => E.ct Γ
def dExpr (τ : TEd) : TSd := fun E Γ => τ Γ fun _ Γ1 => E.nx Γ1
theorem ds_expr (he : DE X e τ) (hs : swapsWith e none pos.line X.env = pure false := by rfl) : DS X (.Expr e pos) (dExpr τ) := psI (ps_expr he hs) fun D σ H ⟨G0, Γ, F, E, R1, k, q⟩ =>
  ⟨G0, Γ, [], F, _, R1, k, fun o Γ1 v H1 k1 R2 => q.nx Γ1 σ H1 k1 R2.drop⟩
def dRet (τ : TEd) : TSd := fun E Γ => τ Γ fun o Γ1 => mov Γ1 o E.rt
theorem ds_ret (he : DE X e τ) : DS X (.Return (some e) pos) (dRet τ) := psI (ps_ret he) fun D σ H ⟨G0, Γ, F, E, R1, k, q⟩ =>
  ⟨G0, Γ, [], F, _, R1, k, fun o Γ1 v H1 k1 R2 => by
    obtain ⟨o', Γ', h1, n1, R3⟩ := R2.moved k1
    exact q.rt o' Γ' v σ H1 n1 h1 R3⟩
def dRetN : TSd := fun E Γ => E.rt (.fz .none) Γ
def dIfS (c : TTd) (t u : TSd) : TSd := fun E Γ => c Γ fun b Γ1 => (b = true → t E Γ1) ∧ (b = false → u E Γ1)
theorem ds_if {c : Expr} {a b : List Stmt} (hc : DT X c τt) (ha : DSs X a t) (hb : DSs X b u) : DS X (.If c a b pos) (dIfS τt t u) := psI (ps_if hc ha hb) fun D σ H ⟨G0, Γ, F, E, R1, k, q⟩ =>
  ⟨G0, Γ, [], F, _, R1, k, fun c Γ1 H1 k1 R2 => by
    cases c with
    | true => rw [if_pos rfl]; exact ⟨G0, Γ1, F, E, R2, k1.1 rfl, q⟩
    | false => rw [if_neg (by decide)]; exact ⟨G0, Γ1, F, E, R2, k1.2 rfl, q⟩⟩
/-- name = e -/
def dSet (i : Nat) (τ : TEd) : TSd := fun E Γ => τ Γ fun o Γ1 => fix1 Γ1 o fun o1 Γ2 => E.nx (put Γ2 i (some o1))
theorem ds_set (i : Nat) {x : Str} {pos' : Pos} (hN : X.N.Nodup) (he : DE X e τ) (hi : X.N[i]? = some x := by rfl) (hx : Loc X.env.scope x := by first | exact Or.inl rfl | exact Or.inr rfl) (hs : swapsWith e (some (.Name x pos')) pos.line X.env = pure false := by rfl) (hf : X.fn x = true ∨ X.env.scope.names.lookup x = some .local := by first | exact .inl rfl | exact .inr rfl) :
    DS X (.Assign [.Name x pos'] e pos) (dSet i τ) := psI (ps_set (i := i) hN hi hx he hs hf) fun D σ H ⟨G0, Γ, F, E, R1, k, q⟩ =>
  ⟨G0, Γ, [], F, _, R1, k, fun o Γ1 v H1 k1 R2 => by
    obtain ⟨o', Γ', h1, n1, R3⟩ := R2.fixed k1
    exact q.nx _ _ H1 h1 R3.toF'.store⟩
/-- a, b = e1, e2 -/
def putN : Gm → List Nat → List O → Gm
  | Γ, i :: is, o :: os => putN (put Γ i (some o)) is os
  | Γ, _, _ => Γ
def dMulti (is : List Nat) (τs : TAd) : TSd := fun E Γ => τs Γ fun os Γ1 => os.length = is.length ∧ fixN Γ1 os fun o1 Γ2 => E.nx (putN Γ2 is o1)
theorem ds_par (i j : Nat) {x y : Str} {a b : Expr} {px py pt : Pos} {kt k2 pt2} (hN : X.N.Nodup) (ha : DA X [a, b] τs) (hc : X.calm = true := by rfl) (hi : X.N[i]? = some x := by rfl) (hj : X.N[j]? = some y := by rfl) (hij : i ≠ j := by decide)
    (hx : X.env.scope.names.lookup x = some .local := by rfl) (hy : X.env.scope.names.lookup y = some .local := by rfl)
    (hw : swappedStores [.Tuple [.Name x px, .Name y py] kt pt] (.Tuple [a, b] k2 pt2) X.env = pure (some [x, y]) := by rfl)
    (hs : swapsWithSole [.Tuple [.Name x px, .Name y py] kt pt] (.Tuple [a, b] k2 pt2) pos.line X.env = pure false := by rfl) :
    DS X (.Assign [.Tuple [.Name x px, .Name y py] kt pt] (.Tuple [a, b] k2 pt2) pos) (dMulti [i, j] τs) := psI (ps_par hc hN hi hj hij hx hy ha hw hs) fun D σ H ⟨G0, Γ, F, E, R1, k, q⟩ =>
  ⟨G0, Γ, [], F, _, R1, k, fun os Γ1 vs H1 ⟨hl2, k1⟩ hl R2 => by
    obtain ⟨os', Γ', h1, l1, n1, R3⟩ := Rel.fixedN hl R2 k1
    match vs, os', l1, h1, n1, R3, (show vs.length = 2 from hl.trans hl2) with
    | [v, w], [o1, o2], _, h1, n1, R3, _ =>
      exact ⟨v, w, rfl, q.nx _ _ H1 h1 (Rel.toF' (Rel.toF' (T := [(w, o2)]) R3)).swapF.store.store⟩⟩
theorem ds_par3 (i j l : Nat) {x y z : Str} {a b c : Expr} {px py pz pt : Pos} {kt k2 pt2} (hN : X.N.Nodup) (ha : DA X [a, b, c] τs) (hc : X.calm = true := by rfl) (hi : X.N[i]? = some x := by rfl) (hj : X.N[j]? = some y := by rfl) (hl' : X.N[l]? = some z := by rfl) (hij : i ≠ j := by decide) (hil : i ≠ l := by decide) (hjl : j ≠ l := by decide)
    (hx : X.env.scope.names.lookup x = some .local := by rfl) (hy : X.env.scope.names.lookup y = some .local := by rfl) (hz : X.env.scope.names.lookup z = some .local := by rfl)
    (hw : swappedStores [.Tuple [.Name x px, .Name y py, .Name z pz] kt pt] (.Tuple [a, b, c] k2 pt2) X.env = pure (some [x, y, z]) := by rfl)
    (hs : swapsWithSole [.Tuple [.Name x px, .Name y py, .Name z pz] kt pt] (.Tuple [a, b, c] k2 pt2) pos.line X.env = pure false := by rfl) :
    DS X (.Assign [.Tuple [.Name x px, .Name y py, .Name z pz] kt pt] (.Tuple [a, b, c] k2 pt2) pos) (dMulti [i, j, l] τs) := psI (ps_par3 hc hN hi hj hl' hij hil hjl hx hy hz ha hw hs) fun D σ H ⟨G0, Γ, F, E, R1, k, q⟩ =>
  ⟨G0, Γ, [], F, _, R1, k, fun os Γ1 vs H1 ⟨hl2, k1⟩ hl R2 => by
    obtain ⟨os', Γ', h1, l1, n1, R3⟩ := Rel.fixedN hl R2 k1
    match vs, os', l1, h1, n1, R3, (show vs.length = 3 from hl.trans hl2) with
    | [u, v, w], [o1, o2, o3], _, h1, n1, R3, _ =>
      have R4 := Rel.toF' (T := [(v, o2), (w, o3)]) R3
      have R5 := Rel.toF' (T := [(w, o3)]) R4
      have R6 := Rel.toF' (T := []) R5
      have R7 : Rel X.K G0 [] ((u, o1) :: (v, o2) :: (w, o3) :: F) σ H1 Γ' := ⟨R6.fit, R6.al, R6.r.perm (List.Perm.append_left (ents σ Γ') (((List.Perm.swap _ _ _).cons _).trans ((List.Perm.swap _ _ _).trans ((List.Perm.swap _ _ _).cons _))))⟩
      exact ⟨u, v, w, rfl, q.nx _ _ H1 h1 R7.store.store.store⟩⟩
end
end Dl
end
section
namespace Dl
open PySem PySem.Spec PyProof.Rows L2
def Agree (ws : List Nat) (σ σ' : Sl) : Prop := σ'.length = σ.length ∧ ∀ j, j ∉ ws → σ'[j]? = σ[j]?
abbrev TGd := PyData → Gm → (Gm → Prop) → Prop
abbrev TGsd := List PyData → Gm → (Gm → Prop) → Prop
def liftG (K : PySem.W.Frag) (ws : List Nat) (γ : TGd) : TG := fun v σ H Q => ∃ G0 Γ F d Kt, Rel K G0 [] ((v, .fz d) :: F) σ H Γ ∧ γ d Γ Kt ∧ ∀ Γ' σ' H', Kt Γ' → Agree ws σ σ' → Rel K G0 [] F σ' H' Γ' → Q σ' H'
def liftGs (K : PySem.W.Frag) (ws : List Nat) (γ : TGsd) : TGs := fun vs σ H Q => ∃ G0 Γ F ds Kt, vs.length = ds.length ∧ Rel K G0 [] (fzs vs ds ++ F) σ H Γ ∧ γ ds Γ Kt ∧ ∀ Γ' σ' H', Kt Γ' → Agree ws σ σ' → Rel K G0 [] F σ' H' Γ' → Q σ' H'
abbrev DG (X : Cx) (tg : Expr) (ws : List Nat) (γ : TGd) : Prop := PG X tg (liftG X.K ws γ)
abbrev DGs (X : Cx) (ts : List Expr) (ws : List Nat) (γ : TGsd) : Prop := PGs X ts (liftGs X.K ws γ)
theorem pgI {X : Cx} {e : Expr} {t t' : TG} (h : PG X e t) (f : ∀ v σ H Q, t' v σ H Q → t v σ H Q) : PG X e t' := ⟨fun pins s σ H v u Q I r q => h.run pins s σ H v u Q I r (f v σ H Q q)⟩
theorem pgsI {X : Cx} {e : List Expr} {t t' : TGs} (h : PGs X e t) (f : ∀ v σ H Q, t' v σ H Q → t v σ H Q) : PGs X e t' := ⟨fun pins s σ H v u Q I r q => h.run pins s σ H v u Q I r (f v σ H Q q)⟩
theorem pg_or {X : Cx} {e : Expr} {t t' : TG} (h : PG X e t) (h' : PG X e t') : PG X e (fun v σ H Q => t v σ H Q ∨ t' v σ H Q) :=
  ⟨fun pins s σ H v u Q I r q => q.elim (fun z => h.run pins s σ H v u Q I r z) fun z => h'.run pins s σ H v u Q I r z⟩
theorem Agree.refl {ws : List Nat} {σ : Sl} : Agree ws σ σ := ⟨rfl, fun _ _ => rfl⟩
section
variable {X : Cx} {pos : Pos} {e : Expr} {es : List Expr} {w1 w2 : List Nat} {γ : TGd} {γs : TGsd}
def gdName (i : Nat) : TGd := fun d Γ Kt => Kt (put Γ i (some (.fz d)))
theorem dg_name (i : Nat) {x : Str} (hN : X.N.Nodup) (hi : X.N[i]? = some x := by rfl) (hx : Loc X.env.scope x := by first | exact Or.inl rfl | exact Or.inr rfl) (hf : X.fn x = true ∨ X.env.scope.names.lookup x = some .local := by first | exact .inl rfl | exact .inr rfl) : DG X (.Name x pos) [i] (gdName i) :=
  pgI (pg_name hN hi hx hf) fun v σ H Q ⟨G0, Γ, F, d, Kt, R1, k, q⟩ => q _ _ H k ⟨by rw [List.length_set], fun j hj => List.getElem?_set_ne (fun z => hj (by simp [z]))⟩ R1.store
def gdNil : TGsd := fun ds Γ Kt => match ds with
  | [] => Kt Γ
  | _ :: _ => False
def gdCons (t : TGd) (u : TGsd) : TGsd := fun ds Γ Kt => match ds with
  | d :: r => t d Γ fun Γ1 => u r Γ1 Kt
  | [] => False
theorem dgs_nil : DGs X [] [] gdNil := pgsI pgs_nil fun vs σ H Q ⟨G0, Γ, F, ds, Kt, hl, R1, k, q⟩ => by
  match ds, vs, hl with
  | [], [], _ => exact ⟨rfl, q Γ σ H k .refl R1⟩
  | _ :: _, _ :: _, _ => exact k.elim
theorem dgs_cons (h1 : DG X e w1 γ) (h2 : DGs X es w2 γs) (hs : (assignEach (e :: es) X.env).map (·.2) = assign e X.env :: (assignEach es X.env).map (·.2) := by rfl) : DGs X (e :: es) (w1 ++ w2) (gdCons γ γs) :=
  pgsI (pgs_cons h1 h2 hs) fun vs σ H Q ⟨G0, Γ, F, ds, Kt, hl, R1, k, q⟩ => by
    cases ds with
    | nil => exact k.elim
    | cons d ds =>
      obtain ⟨v, vs, rfl⟩ : ∃ v r, vs = v :: r := by
        cases vs with
        | nil => cases hl
        | cons v r => exact ⟨v, r, rfl⟩
      refine ⟨v, vs, rfl, G0, Γ, fzs vs ds ++ F, d, _, R1, k, fun Γ1 σ1 H1 k1 a1 R2 => ⟨G0, Γ1, F, ds, _, Nat.succ.inj hl, R2, k1, fun Γ2 σ2 H2 k2 a2 R3 => q Γ2 σ2 H2 k2 ⟨a2.1.trans a1.1, fun j hj => ?_⟩ R3⟩⟩
      rw [List.mem_append, not_or] at hj
      exact (a2.2 j hj.2).trans (a1.2 j hj.1)
def gdTup (n : Nat) (t : TGsd) : TGd := fun d Γ Kt => match itemsOf d with
  | some (_, ds) => ds.length = n ∧ t ds Γ Kt
  | none => False
theorem dg_tup {k n : Nat} (h : DGs X es w1 γs) (hc : X.calm = true := by rfl) (hn : (assignEach es X.env).length = n := by rfl) (hst : (assignEach es X.env).findIdx? (·.1) = none := by rfl) : DG X (.Tuple es k pos) w1 (gdTup n γs) :=
  pgI (pg_or (pg_tup hc h hn hst) (pg_unl hc h hn hst)) fun v σ H Q ⟨G0, Γ, F, d, Kt, R1, k, q⟩ => by
    have k : (match itemsOf d with | some (_, ds) => ds.length = n ∧ γs ds Γ Kt | none => False) := k
    cases hi : itemsOf d with
    | none => rw [hi] at k; exact k.elim
    | some p =>
      obtain ⟨kd, ds⟩ := p
      rw [hi] at k
      have R2 := Rel.ofF' (T := []) (o := .fz d) (fun _ z => nomatch z) R1
      obtain ⟨a, vs, rfl, hq, hl, r3⟩ := R.seq R2.r hi
      have R3 : Rel X.K G0 [] (fzs vs ds ++ F) σ H Γ := ⟨R1.fit, R1.al, (R.perm r3 (by
        have q : (fzs vs ds ++ ((V.ref a, O.fz d) :: ([] ++ (ents σ Γ ++ F)))).Perm ((V.ref a, O.fz d) :: (ents σ Γ ++ (fzs vs ds ++ F))) := by
          refine List.perm_middle.trans (List.Perm.cons _ ?_)
          rw [List.nil_append, ← List.append_assoc, ← List.append_assoc]
          exact List.perm_append_comm.append_right F
        exact q)).tail⟩
      have out : liftGs X.K w1 γs vs σ H Q := ⟨G0, Γ, F, ds, Kt, hl, R3, k.2, q⟩
      cases kd with
      | true => exact .inr ⟨a, vs, rfl, hq, hl.trans k.1, out⟩
      | false => exact .inl ⟨a, vs, rfl, hq, hl.trans k.1, out⟩
variable {tg iter : Expr} {body : List Stmt} {τi : TId} {tb : TSd}
def dFor (τi : TId) (γ : TGd) (tb : TSd) : TSd := fun E Γ => τi Γ fun n it Γ1 => ∃ Iv : Nat → Gm → Prop, Iv 0 Γ1 ∧
  (∀ i Γ2, i < n → Iv i Γ2 → γ (it i) Γ2 fun Γ3 => tb { E with nx := Iv (i + 1), ct := Iv (i + 1), bk := E.nx } Γ3) ∧ ∀ Γ2, Iv n Γ2 → E.nx Γ2
theorem ds_for (hi : DI X tg iter τi) (hg : DG X tg w1 γ) (hb : DSs X body tb) (hp : PassesOwn (model X.prog X.w) X.A X.env X.xe := by exact PassesOwn.never) (hc : X.calm = true := by rfl)
    (hs : ∀ x, foldedSetIterable iter X.env x = pure x := by intro _; rfl) : DS X (.For tg iter body [] pos) (dFor τi γ tb) := psI (ps_for hp hc hi hg hb hs) fun D σ H ⟨G0, Γ, F, E, R1, k, q⟩ =>
  ⟨G0, Γ, [], F, _, R1, k, fun n it Γ1 J S H1 ⟨Iv, i0, is, ie⟩ fd R2 => by
    have ld : Leads X.K G0 (S ++ F) E D := ⟨fun Γ σ H k r => q.nx Γ σ H k r.dropF, fun o Γ v σ H n k r => q.rt o Γ v σ H n k r.dropF, fun Γ σ H k r => q.bk Γ σ H k r.dropF, fun Γ σ H k r => q.ct Γ σ H k r.dropF⟩
    have rS : ∀ {σ H Γ}, Rel X.K G0 [] (S ++ F) σ H Γ → R X.K G0 H (S ++ (ents σ Γ ++ F)) := fun {σ H Γ} r => r.r.perm (by
      rw [List.nil_append, ← List.append_assoc, ← List.append_assoc]
      exact List.perm_append_comm.append_right F)
    refine ⟨fun i m σ H => m = n - i ∧ i ≤ n ∧ ∃ Γ, Iv i Γ ∧ Rel X.K G0 [] (S ++ F) σ H Γ, ⟨n, rfl, Nat.zero_le _, Γ1, i0, R2⟩, ?_⟩
    rintro i m σ2 H2 ⟨rfl, hle, Γ2, iv, R3⟩
    by_cases hlt : i < n
    · obtain ⟨g1, g2⟩ := fd.step (rS R3) hlt
      refine .inr ⟨g1, fun σ' H' => ∃ Γ', Iv (i + 1) Γ' ∧ Rel X.K G0 [] (S ++ F) σ' H' Γ', fun σ' H' h => ⟨n - (i + 1), by omega, rfl, hlt, h⟩, fun x H' hy => ?_⟩
      have r4 := g2 x H' hy
      have R4 : Rel X.K G0 [] ((x, .fz (it i)) :: (S ++ F)) σ2 H' Γ2 := ⟨R3.fit, R3.al, r4.perm (by
        have q : (S ++ (ents σ2 Γ2 ++ F)).Perm (ents σ2 Γ2 ++ (S ++ F)) := by
          rw [← List.append_assoc, ← List.append_assoc]
          exact List.perm_append_comm.append_right F
        exact (q.cons _).trans List.perm_middle.symm)⟩
      refine ⟨G0, Γ2, S ++ F, it i, _, R4, is i Γ2 hlt iv, fun Γ3 σ3 H3 k3 _ R5 => ⟨G0, Γ3, S ++ F, _, R5, k3, ⟨fun Γ σ H k r => ⟨Γ, k, r⟩, ld.rt, ld.nx, fun Γ σ H k r => ⟨Γ, k, r⟩⟩⟩⟩
    · obtain rfl : i = n := by omega
      exact .inl ⟨fd.stop (rS R3), ld.nx Γ2 σ2 H2 (ie Γ2 iv) R3⟩⟩
variable {c : Expr} {τt : TTd}
def dWhile (τt : TTd) (tb : TSd) : TSd := fun E Γ => ∃ Iv : Nat → Gm → Prop, (∃ m, Iv m Γ) ∧ ∀ m Γ1, Iv m Γ1 → τt Γ1 fun b Γ2 => (b = true → tb { E with nx := fun Γ3 => ∃ m', m' < m ∧ Iv m' Γ3, ct := fun Γ3 => ∃ m', m' < m ∧ Iv m' Γ3, bk := E.nx } Γ2) ∧ (b = false → E.nx Γ2)
theorem ds_while (hc : DT X c τt) (hb : DSs X body tb) (hp : PassesOwn (model X.prog X.w) X.A X.env X.xe := by exact PassesOwn.never) : DS X (.While c body [] pos) (dWhile τt tb) := psI (ps_while hp hc hb) fun D σ H ⟨G0, Γ, F, E, R1, ⟨Iv, ⟨m0, i0⟩, is⟩, q⟩ => by
  refine ⟨fun m σ H => ∃ Γ, Iv m Γ ∧ Rel X.K G0 [] F σ H Γ, ⟨m0, Γ, i0, R1⟩, ?_⟩
  rintro m σ2 H2 ⟨Γ2, iv, R2⟩
  refine ⟨G0, Γ2, [], F, _, R2, is m Γ2 iv, fun b Γ3 H3 k3 R3 => ?_⟩
  cases b with
  | false => exact q.nx Γ3 σ2 H3 (k3.2 rfl) R3
  | true => exact ⟨fun σ' H' => ∃ m', m' < m ∧ ∃ Γ', Iv m' Γ' ∧ Rel X.K G0 [] F σ' H' Γ', fun σ' H' h => h, G0, Γ3, F, _, R3, k3.1 rfl, ⟨fun Γ σ H ⟨m', h1, h2⟩ r => ⟨m', h1, Γ, h2, r⟩, q.rt, q.nx, fun Γ σ H ⟨m', h1, h2⟩ r => ⟨m', h1, Γ, h2, r⟩⟩⟩
end
end Dl
end
section
namespace Dl
open PySem PySem.Spec PyProof.Rows L2
/-- a def of data: its arguments stand still -/
def spP (K : PySem.W.Frag) (n : Nat) (φ : List PyData → (O → Prop) → Prop) : Sp := fun vs H Q _ => ∃ G0 ds F Kt, vs.length = ds.length ∧ ds.length = n ∧ R K G0 H (fzs vs ds ++ F) ∧ φ ds Kt ∧ ∀ o v H', Kt o → (∀ i, o ≠ .al i) → R K G0 H' ((v, o) :: F) → Q v H'
/-- a def that draws from the box, its first argument -/
def spB (K : PySem.W.Frag) (n : Nat) (φ : Nat → List PyData → (O → Nat → Prop) → Prop) : Sp := fun vs H Q _ => ∃ G0 p m ds vr F Kt, vs = .ref p :: vr ∧ vr.length = ds.length ∧ ds.length = n ∧ R K G0 H ((.ref p, .box p m) :: (fzs vr ds ++ F)) ∧ φ m ds Kt ∧
  ∀ o m' v H', Kt o m' → (∀ i, o ≠ .al i) → R K G0 H' ((v, o) :: (.ref p, .box p m') :: F) → Q v H'
def startG (N : List Str) (os : List O) : Gm := os.map some ++ List.replicate (N.length - os.length) none
section
variable {K : PySem.W.Frag} {G0 H H' : Hp} {T F S : Ent} {σ σ' : Sl} {Γ : Gm} {v w : V} {o p : O} {d e : PyData} {i : Nat} {ds es : List PyData}
theorem ents_none : ∀ (n : Nat), ents (List.replicate n none) (List.replicate n none) = [] ∧ Fit (List.replicate n none) (List.replicate n none)
  | 0 => ⟨rfl, trivial⟩
  | n + 1 => ents_none n
theorem ents_start {n : Nat} : ∀ {vs : List V} {os : List O}, vs.length = os.length → ents (vs.map some ++ List.replicate n none) (os.map some ++ List.replicate n none) = vs.zip os ∧ Fit (vs.map some ++ List.replicate n none) (os.map some ++ List.replicate n none)
  | [], [], _ => ents_none n
  | v :: vs, o :: os, h => by
    obtain ⟨h1, h2⟩ := ents_start (n := n) (Nat.succ.inj h)
    exact ⟨congrArg ((v, o) :: ·) h1, h2⟩
  | [], _ :: _, h => by cases h
  | _ :: _, [], h => by cases h
theorem fzs_zip : ∀ {vs : List V} {ds : List PyData}, fzs vs ds = vs.zip (ds.map .fz)
  | [], [] => rfl
  | [], _ :: _ => rfl
  | _ :: _, [] => rfl
  | v :: vs, d :: ds => congrArg (fun l => (v, O.fz d) :: l) (fzs_zip (vs := vs) (ds := ds))
end
section
variable {P : Program} {w : World} {K : PySem.W.Frag} {mg : Str → Option Value} {base : Heap}
theorem fnP {x qual : Str} {st : Stmt} {f : Addr} {fd : FuncData} {N ps : List Str} {k n : Nat} {φ : List PyData → (O → Prop) → Prop} (F : Fun K x qual st f fd) (S : FnScope N ps (defScope st)) (hn : ps.length = n)
    (hbody : ∀ (cdv : Value) (A : Around) (outer : List Env) (s : Shared) (H : Hp) (E : XK), Room k (A.deeper (envOfC qual (defScope st) s.heap.objs.size f cdv)) →
      ∃ τ, DSs (cxOf CX0 P w K mg base N qual (defScope st) f cdv A outer s H E).nox (defBody st) τ ∧ ∀ ds Kt, ds.length = n → φ ds Kt → τ { nx := fun _ => Kt (.fz .none), rt := fun o _ => Kt o } (startG N (ds.map .fz))) :
    FnOk P w K mg base CX0 (k + 1) f fd ps (spP K n φ) := by
  refine F.ok S (fun vs H Q E h => ?_) (fun cdv A outer s H vs Q E hr h => ?_)
  · obtain ⟨G0, ds, F, Kt, h1, h2, _⟩ := h
    rw [h1, h2, hn]
  · obtain ⟨τ, hτ, hq⟩ := hbody cdv A outer s H E hr
    obtain ⟨G0, ds, F, Kt, h1, h2, r, hφ, q⟩ := h
    refine ⟨_, hτ, ?_⟩
    obtain ⟨e1, e2⟩ := ents_start (n := N.length - vs.length) (vs := vs) (os := ds.map .fz) (by rw [List.length_map, h1])
    have e3 : startG N (ds.map .fz) = (ds.map O.fz).map some ++ List.replicate (N.length - vs.length) none := by
      unfold startG
      rw [List.length_map, h1]
    refine ⟨G0, startG N (ds.map .fz), F, _, ⟨?_, fun _ _ m => by simp at m, ?_⟩, hq ds Kt h2 hφ, ⟨fun Γ σ H' k1 r1 => ?_, fun o Γ v σ H' n1 k1 r1 => ?_, fun _ _ _ z => z.elim, fun _ _ _ z => z.elim⟩⟩
    · rw [e3]
      exact e2
    · rw [e3]
      show R K G0 H (ents (vs.map some ++ List.replicate (N.length - vs.length) none) _ ++ F)
      rw [e1, ← fzs_zip]
      exact r
    · have r2 : R K G0 H' (ents σ Γ ++ F) := r1.r
      exact q (.fz .none) .non H' k1 (fun _ z => nomatch z) (r2.dropL.add fun _ => .non)
    · have r2 : R K G0 H' ((v, o) :: (ents σ Γ ++ F)) := r1.r
      refine q o v H' k1 n1 (R.dropL (M := ents σ Γ) (r2.perm ?_))
      exact List.perm_middle.symm
theorem fnB {x qual : Str} {st : Stmt} {f : Addr} {fd : FuncData} {N ps : List Str} {k n : Nat} {φ : Nat → List PyData → (O → Nat → Prop) → Prop} (F : Fun K x qual st f fd) (S : FnScope N ps (defScope st)) (hn : ps.length = n + 1)
    (hbody : ∀ (cdv : Value) (A : Around) (outer : List Env) (s : Shared) (H : Hp) (E : XK), Room k (A.deeper (envOfC qual (defScope st) s.heap.objs.size f cdv)) →
      ∃ τ, DSs (cxOf CX0 P w K mg base N qual (defScope st) f cdv A outer s H E).nox (defBody st) τ ∧ ∀ p m ds Kt, ds.length = n → φ m ds Kt →
        τ { nx := fun Γ => ∃ m', get Γ 0 = some (.box p m') ∧ Kt (.fz .none) m', rt := fun o Γ => ∃ m', get Γ 0 = some (.box p m') ∧ Kt o m' } (startG N (.box p m :: ds.map .fz))) :
    FnOk P w K mg base CX0 (k + 1) f fd ps (spB K n φ) := by
  refine F.ok S (fun vs H Q E h => ?_) (fun cdv A outer s H vs Q E hr h => ?_)
  · obtain ⟨G0, p, m, ds, vr, F, Kt, rfl, h1, h2, _⟩ := h
    rw [List.length_cons, h1, h2, hn]
  · obtain ⟨τ, hτ, hq⟩ := hbody cdv A outer s H E hr
    obtain ⟨G0, p, m, ds, vr, F, Kt, rfl, h1, h2, r, hφ, q⟩ := h
    refine ⟨_, hτ, ?_⟩
    obtain ⟨e1, e2⟩ := ents_start (n := N.length - (vr.length + 1)) (vs := .ref p :: vr) (os := .box p m :: ds.map .fz) (by rw [List.length_cons, List.length_cons, List.length_map, h1])
    have e3 : startG N (.box p m :: ds.map .fz) = (O.box p m :: ds.map O.fz).map some ++ List.replicate (N.length - (vr.length + 1)) none := by
      unfold startG
      rw [List.length_cons, List.length_map, h1]
    refine ⟨G0, startG N (.box p m :: ds.map .fz), F, _, ⟨?_, fun _ _ m => by simp at m, ?_⟩, hq p m ds Kt h2 hφ, ⟨fun Γ σ H' ⟨m', g, k1⟩ r1 => ?_, fun o Γ v σ H' n1 ⟨m', g, k1⟩ r1 => ?_, fun _ _ _ z => z.elim, fun _ _ _ z => z.elim⟩⟩
    · rw [e3]
      exact e2
    · rw [e3]
      show R K G0 H (ents ((V.ref p :: vr).map some ++ List.replicate (N.length - (vr.length + 1)) none) _ ++ F)
      rw [e1]
      show R K G0 H ((.ref p, .box p m) :: (vr.zip (ds.map .fz) ++ F))
      rw [← fzs_zip]
      exact r
    · obtain ⟨u, _, r2, _⟩ := r1.out g
      obtain ⟨rfl, _⟩ := r2.draw
      have r3 : R K G0 H' ((.ref p, .box p m') :: F) := by
        have r3 : R K G0 H' ((.ref p, .box p m') :: (ents σ (put Γ 0 none) ++ F)) := r2
        refine R.dropL (M := ents σ (put Γ 0 none)) (r3.perm ?_)
        exact List.perm_middle.symm
      exact q (.fz .none) m' .non H' k1 (fun _ z => nomatch z) (r3.add fun _ => .non)
    · obtain ⟨u, _, r2, _⟩ := r1.out g
      obtain ⟨rfl, _⟩ := r2.draw
      refine q o m' v H' k1 n1 ?_
      have r3 : R K G0 H' ((.ref p, .box p m') :: (v, o) :: (ents σ (put Γ 0 none) ++ F)) := r2
      refine R.dropL (M := ents σ (put Γ 0 none)) (r3.perm ?_)
      exact (List.Perm.swap _ _ _).trans ((List.perm_middle.symm.cons _).trans List.perm_middle.symm)
end
section
variable {X : Cx} {CX : CXT} {k n : Nat} {f : Addr} {fd : FuncData} {ps : List Str} {x : Str} {p pos : Pos} {e : Expr} {es : List Expr} {τs : TAd} {φ : List PyData → (O → Prop) → Prop} {φb : Nat → List PyData → (O → Nat → Prop) → Prop}
def dCallP (n : Nat) (φ : List PyData → (O → Prop) → Prop) (t : TAd) : TEd := fun Γ Kt => t Γ fun os Γ1 => escs Γ1 os fun ds Γ2 => ds.length = n ∧ φ ds fun o => Kt o Γ2
theorem useP {G0 : Hp} {Γ : Gm} {T F : Ent} {σ : Sl} {H : Hp} {vs : List V} {os : List O} {Kt : O → Gm → Prop} {Q : VK} {E : XK} (hl : vs.length = os.length) (R2 : Rel X.K G0 (vs.zip os ++ T) F σ H Γ) (k1 : escs Γ os fun ds Γ2 => ds.length = n ∧ φ ds fun o => Kt o Γ2)
    (q : ∀ o Γ' v H', Kt o Γ' → Rel X.K G0 ((v, o) :: T) F σ H' Γ' → Q v H') : spP X.K n φ vs H Q E := by
  obtain ⟨ds, Γ2, ⟨h1, h2⟩, hl2, R3⟩ := Rel.escapes hl R2 k1
  refine ⟨G0, ds, T ++ (ents σ Γ2 ++ F), _, hl2, h1, ?_, h2, fun o v H' k2 n1 r => q o Γ2 v H' k2 ⟨R3.fit, ?_, r⟩⟩
  · have r := R3.r
    rw [List.append_assoc] at r
    exact r
  · refine AlOk.cons ?_ n1
    exact R2.al |> fun h => fun w j m => h w j (List.mem_append_right _ m)
theorem de_callP (Fo : FnOk X.prog X.w X.K X.mg X.base CX0 k f fd ps (spP X.K n φ)) (hr : Room k X.A) (hg : Gl X x) (hm : X.mg x = some (.ref f)) (hk : PySem.W.keepIn X.K (.ref f) = true) (hb : Binds X.K fd ps [])
    (ha : DA X (e :: es) τs) (hdb : (x == ("__debug__" : Str)) = false := by decide) (he : starEach (e :: es) X.env = (false, eval e X.env) :: starEach es X.env := by rfl) (hpl : (backTo pos (starEach es X.env)).any (·.1) = false := by rfl) :
    DE X (.Call (.Name x p) (e :: es) [] pos) (dCallP n φ τs) := peI (pe_call Fo hr hg hm hk hb .nil pass0 ha hdb he hpl) fun σ H Q ⟨G0, Γ, T, F, Kt, R1, k, q⟩ => ⟨G0, Γ, T, F, _, R1, k, fun os Γ1 vs H1 k1 hl R2 => by
  show spP X.K n φ (vs ++ []) H1 Q E0
  rw [List.append_nil]
  exact useP hl R2 k1 q⟩
/-- a def whose value is no object: what is one's own stays so -/
def isScal : O → Prop
  | .fz (.int _) => True
  | .fz (.bool _) => True
  | .fz (.str _) => True
  | .fz .none => True
  | _ => False
def vws : Gm → List O → (List PyData → Prop) → Prop
  | Γ, [], k => k []
  | Γ, o :: os, k => match vw Γ o with
    | some d => vws Γ os fun ds => k (d :: ds)
    | none => False
def dCallV (n : Nat) (φ : List PyData → (O → Prop) → Prop) (t : TAd) : TEd := fun Γ Kt => t Γ fun os Γ1 => vws Γ1 os fun ds => ds.length = n ∧ φ ds fun o => isScal o ∧ Kt o Γ1
theorem Rel.views {K : PySem.W.Frag} {G0 : Hp} {T F : Ent} {σ : Sl} {H : Hp} {Γ : Gm} : ∀ {vs : List V} {os : List O} {k : List PyData → Prop}, vs.length = os.length → Rel K G0 (vs.zip os ++ T) F σ H Γ → vws Γ os k → ∃ ds, k ds ∧ DqAll K H vs ds
  | [], [], k, _, r, h => ⟨[], h, .nil⟩
  | v :: vs, o :: os, k, hl, r, h => by
    have h : (match vw Γ o with | some d => vws Γ os fun ds => k (d :: ds) | none => False) := h
    cases q : vw Γ o with
    | none => rw [q] at h; exact h.elim
    | some d =>
      rw [q] at h
      have h1 := Rel.view (T := vs.zip os ++ T) r q
      obtain ⟨ds, h2, h3⟩ := Rel.views (Nat.succ.inj hl) (Rel.drop (T := vs.zip os ++ T) r) h
      exact ⟨d :: ds, h2, .cons h1 h3⟩
  | [], _ :: _, _, hl, _, _ => by cases hl
  | _ :: _, [], _, hl, _, _ => by cases hl
theorem scal_any {K : PySem.W.Frag} {G0 H : Hp} {L : Ent} {v : V} {o : O} (h : isScal o) (r : R K G0 H ((v, o) :: L)) : ∃ d, o = .fz d ∧ ∀ G, Dq K G v d := by
  cases o with
  | fz d =>
    refine ⟨d, rfl, fun G => ?_⟩
    cases d with
    | int i => rw [r.int]; exact .int i
    | bool b => rw [r.bl]; exact .bl b
    | str z => rw [r.str]; exact .str z
    | none => rw [r.non]; exact .non
    | list _ => exact h.elim
    | tuple _ => exact h.elim
    | dict _ => exact h.elim
  | own _ => exact h.elim
  | ol _ => exact h.elim
  | box _ _ => exact h.elim
  | al _ => exact h.elim
  | any => exact h.elim
  | dct _ => exact h.elim
  | ob _ => exact h.elim
theorem useV {G0 : Hp} {Γ : Gm} {T F : Ent} {σ : Sl} {H : Hp} {vs : List V} {os : List O} {Kt : O → Gm → Prop} {Q : VK} {E : XK} (hl : vs.length = os.length) (R2 : Rel X.K G0 (vs.zip os ++ T) F σ H Γ) (k1 : vws Γ os fun ds => ds.length = n ∧ φ ds fun o => isScal o ∧ Kt o Γ)
    (q : ∀ o Γ' v H', Kt o Γ' → Rel X.K G0 ((v, o) :: T) F σ H' Γ' → Q v H') : spP X.K n φ vs H Q E := by
  obtain ⟨ds, ⟨h1, h2⟩, h3⟩ := Rel.views hl R2 k1
  have R3 := R2.dropN
  obtain ⟨G1, r1, rest⟩ := R3.r.look h3
  refine ⟨G1, ds, [], _, dpAll_len h3, h1, by rw [List.append_nil]; exact r1, h2, fun o v H' ⟨k2, k3⟩ n1 r => ?_⟩
  obtain ⟨d, rfl, hd⟩ := scal_any k2 r
  have R4 : Rel X.K G0 T F σ H' Γ := ⟨R3.fit, R3.al, (rest H' _ r).1⟩
  exact q _ Γ v H' k3 (R4.push hd)
theorem de_callV (Fo : FnOk X.prog X.w X.K X.mg X.base CX0 k f fd ps (spP X.K n φ)) (hr : Room k X.A) (hg : Gl X x) (hm : X.mg x = some (.ref f)) (hk : PySem.W.keepIn X.K (.ref f) = true) (hb : Binds X.K fd ps [])
    (ha : DA X (e :: es) τs) (hdb : (x == ("__debug__" : Str)) = false := by decide) (he : starEach (e :: es) X.env = (false, eval e X.env) :: starEach es X.env := by rfl) (hpl : (backTo pos (starEach es X.env)).any (·.1) = false := by rfl) :
    DE X (.Call (.Name x p) (e :: es) [] pos) (dCallV n φ τs) := peI (pe_call Fo hr hg hm hk hb .nil pass0 ha hdb he hpl) fun σ H Q ⟨G0, Γ, T, F, Kt, R1, k, q⟩ => ⟨G0, Γ, T, F, _, R1, k, fun os Γ1 vs H1 k1 hl R2 => by
  show spP X.K n φ (vs ++ []) H1 Q E0
  rw [List.append_nil]
  exact useV hl R2 k1 q⟩
/-- a def that draws -/
def onBox (n : Nat) (φ : Nat → List PyData → (O → Nat → Prop) → Prop) (Kt : O → Gm → Prop) (Γ1 : Gm) (os : List O) : Prop := match os with
  | .al i :: os1 => match get Γ1 i with
    | some (.box p m) => escs (put Γ1 i none) os1 fun ds Γ2 => ds.length = n ∧ get Γ2 i = none ∧ i < Γ2.length ∧ φ m ds fun o m' => Kt o (put Γ2 i (some (.box p m')))
    | _ => False
  | _ => False
def dCallB (n : Nat) (φ : Nat → List PyData → (O → Nat → Prop) → Prop) (t : TAd) : TEd := fun Γ Kt => t Γ fun os Γ1 => onBox n φ Kt Γ1 os
theorem put_none_get : ∀ {Γ : Gm} {i : Nat}, get Γ i = none → put Γ i none = Γ
  | [], _, _ => rfl
  | x :: Γ, 0, h => by
    have h : x = none := h
    rw [h]
    rfl
  | x :: Γ, i + 1, h => congrArg (x :: ·) (put_none_get (Γ := Γ) (i := i) h)
theorem useB {G0 : Hp} {Γ : Gm} {T F : Ent} {σ : Sl} {H : Hp} {vs : List V} {os : List O} {Kt : O → Gm → Prop} {Q : VK} {E : XK} (hl : vs.length = os.length) (R2 : Rel X.K G0 (vs.zip os ++ T) F σ H Γ)
    (k1 : onBox n φb Kt Γ os)
    (q : ∀ o Γ' v H', Kt o Γ' → Rel X.K G0 ((v, o) :: T) F σ H' Γ' → Q v H') : spB X.K n φb vs H Q E := by
  cases os with
  | nil => exact k1.elim
  | cons oh os1 =>
    cases oh with
    | al i =>
      cases g : get Γ i with
      | none => simp only [onBox, g] at k1
      | some u =>
        simp only [onBox, g] at k1
        obtain ⟨p, m, rfl⟩ : ∃ p m, u = .box p m := by
          cases u with
          | box p m => exact ⟨p, m, rfl⟩
          | _ => exact k1.elim
        have k1 : escs (put Γ i none) os1 fun ds Γ2 => ds.length = n ∧ get Γ2 i = none ∧ i < Γ2.length ∧ φb m ds fun o m' => Kt o (put Γ2 i (some (.box p m'))) := k1
        obtain ⟨v, vr, rfl⟩ : ∃ v r, vs = v :: r := by
          cases vs with
          | nil => cases hl
          | cons v r => exact ⟨v, r, rfl⟩
        have R2 : Rel X.K G0 ((v, .al i) :: (vr.zip os1 ++ T)) F σ H Γ := R2
        have ev : σ[i]? = some (some v) := R2.al v i List.mem_cons_self
        obtain ⟨w', h1, h2, h3⟩ := R2.drop.out g
        rw [h1] at ev
        cases ev
        obtain ⟨rfl, _⟩ := h2.draw
        have R3 : Rel X.K G0 (vr.zip os1 ++ T) ((.ref p, .box p m) :: F) σ H (put Γ i none) := ⟨h3, R2.al.tail, h2.perm (by
          have q : ((vr.zip os1 ++ T) ++ (ents σ (put Γ i none) ++ (V.ref p, O.box p m) :: F)).Perm ((V.ref p, O.box p m) :: ((vr.zip os1 ++ T) ++ (ents σ (put Γ i none) ++ F))) := by
            rw [← List.append_assoc, ← List.append_assoc]
            exact List.perm_middle
          exact q.symm)⟩
        obtain ⟨ds, Γ2, ⟨e1, e2, e4, e3⟩, hl2, R4⟩ := Rel.escapes (Nat.succ.inj hl) R3 k1
        refine ⟨G0, p, m, ds, vr, T ++ (ents σ Γ2 ++ F), _, rfl, hl2, e1, ?_, e3, fun o m' u H' k2 n1 r => q o _ u H' k2 ?_⟩
        · refine R4.r.perm ?_
          rw [List.append_assoc]
          have q : (fzs vr ds ++ (T ++ (ents σ Γ2 ++ (V.ref p, O.box p m) :: F))).Perm ((V.ref p, O.box p m) :: (fzs vr ds ++ (T ++ (ents σ Γ2 ++ F)))) := by
            rw [← List.append_assoc, ← List.append_assoc, ← List.append_assoc, ← List.append_assoc]
            exact List.perm_middle
          exact q
        · have hput : put Γ2 i none = Γ2 := put_none_get e2
          have r5 : R X.K G0 H' ((.ref p, .box p m') :: (((u, o) :: T) ++ (ents σ (put Γ2 i none) ++ F))) := by
            rw [hput]
            exact r.perm (.swap _ _ _)
          exact Rel.back (by rw [hput]; exact R4.fit) (AlOk.cons (fun w j mm => R2.al w j (List.mem_cons_of_mem _ (List.mem_append_right _ mm))) n1) e4 h1 r5
    | _ => exact k1.elim
theorem de_callB (Fo : FnOk X.prog X.w X.K X.mg X.base CX0 k f fd ps (spB X.K n φb)) (hr : Room k X.A) (hg : Gl X x) (hm : X.mg x = some (.ref f)) (hk : PySem.W.keepIn X.K (.ref f) = true) (hb : Binds X.K fd ps [])
    (ha : DA X (e :: es) τs) (hdb : (x == ("__debug__" : Str)) = false := by decide) (he : starEach (e :: es) X.env = (false, eval e X.env) :: starEach es X.env := by rfl) (hpl : (backTo pos (starEach es X.env)).any (·.1) = false := by rfl) :
    DE X (.Call (.Name x p) (e :: es) [] pos) (dCallB n φb τs) := peI (pe_call Fo hr hg hm hk hb .nil pass0 ha hdb he hpl) fun σ H Q ⟨G0, Γ, T, F, Kt, R1, k, q⟩ => ⟨G0, Γ, T, F, _, R1, k, fun os Γ1 vs H1 k1 hl R2 => by
  show spB X.K n φb (vs ++ []) H1 Q E0
  rw [List.append_nil]
  exact useB hl R2 k1 q⟩
end
end Dl
end
section
namespace Dl
open PySem PySem.Spec PyProof.Rows L2
section
variable {K : PySem.W.Frag} {G0 H H' : Hp} {T F S : Ent} {σ σ' : Sl} {Γ : Gm} {v w : V} {o p : O} {d e : PyData} {i : Nat} {ds es : List PyData}
/-- data whose items stand still each -/
def vk (Γ : Gm) : O → Option PyData
  | .fz d => some d
  | .own ds => some (.list ds)
  | .al i => match get Γ i with
    | some (.fz d) => some d
    | some (.own ds) => some (.list ds)
    | _ => none
  | _ => none
theorem Rel.kids {k : Bool} (r : Rel K G0 ((v, o) :: T) F σ H Γ) (h : vk Γ o = some d) (hi : itemsOf d = some (k, ds)) : ∃ a vs, v = .ref a ∧ SQ K H k a vs ∧ vs.length = ds.length ∧ R K G0 H (fzs vs ds ++ ((v, o) :: (T ++ (ents σ Γ ++ F)))) ∧ (k = true → H a = some (.lst vs)) := by
  have own1 : ∀ {L : Ent} {xs : List PyData}, itemsOf (.list xs) = some (k, ds) → R K G0 H ((v, .own xs) :: L) → ∃ a vs, v = .ref a ∧ SQ K H k a vs ∧ vs.length = ds.length ∧ R K G0 H (fzs vs ds ++ ((v, .own xs) :: L)) ∧ (k = true → H a = some (.lst vs)) := fun {L xs} hi r => by
    cases hi
    obtain ⟨a, vs, h1, h2, h3, h4⟩ := r.itemsO
    exact ⟨a, vs, h1, SqL.of h2, h3, h4, fun _ => h2⟩
  have fz1 : ∀ {L : Ent}, R K G0 H ((v, .fz d) :: L) → ∃ a vs, v = .ref a ∧ SQ K H k a vs ∧ vs.length = ds.length ∧ R K G0 H (fzs vs ds ++ ((v, .fz d) :: L)) ∧ (k = true → H a = some (.lst vs)) := fun {L} r => by
    cases d with
    | list xs =>
      cases hi
      obtain ⟨a, vs, h1, h2, h3, h4⟩ := r.items
      exact ⟨a, vs, h1, SqL.of h2, h3, h4, fun _ => h2⟩
    | tuple xs =>
      cases hi
      obtain ⟨a, vs, h1, h2, h3, h4⟩ := r.itemsT
      exact ⟨a, vs, h1, h2, h3, h4, fun z => by cases z⟩
    | none => cases hi
    | bool _ => cases hi
    | int _ => cases hi
    | str _ => cases hi
    | dict _ => cases hi
  cases o with
  | fz x => cases h; exact fz1 r.r
  | own xs => cases h; exact own1 hi r.r
  | al i =>
    have h : (match get Γ i with | some (.fz d) => some d | some (.own ds) => some (.list ds) | _ => none) = some d := h
    cases g : get Γ i with
    | none => rw [g] at h; cases h
    | some u =>
      rw [g] at h
      obtain ⟨w, h1, h2, h3⟩ := r.out g
      have ev : σ[i]? = some (some v) := r.al v i List.mem_cons_self
      rw [h1] at ev
      cases ev
      have back : ∀ {M : Ent} {u}, get Γ i = some u → R K G0 H (M ++ ((v, u) :: ((v, .al i) :: T ++ (ents σ (put Γ i none) ++ F)))) → R K G0 H (M ++ ((v, .al i) :: (T ++ (ents σ Γ ++ F)))) := fun {M u} g r9 => by
        obtain ⟨w, q1, q2, q3⟩ := ents_out r.fit g
        rw [h1] at q1
        cases q1
        refine r9.perm (List.Perm.append_left M ?_)
        have q : ((v, u) :: ((v, O.al i) :: T ++ (ents σ (put Γ i none) ++ F))).Perm ((v, .al i) :: (T ++ ((v, u) :: (ents σ (put Γ i none) ++ F)))) := (List.Perm.swap _ _ _).trans (List.Perm.cons _ List.perm_middle.symm)
        exact q.trans (List.Perm.cons _ (List.Perm.append_left T (q2.symm.append_right F)))
      cases u with
      | fz x =>
        cases h
        obtain ⟨a, vs, e1, e2, e3, e4, e5⟩ := fz1 h2
        exact ⟨a, vs, e1, e2, e3, back g e4, e5⟩
      | own xs =>
        cases h
        obtain ⟨a, vs, e1, e2, e3, e4, e5⟩ := own1 hi h2
        exact ⟨a, vs, e1, e2, e3, back g e4, e5⟩
      | ol _ => cases h
      | box _ _ => cases h
      | al _ => cases h
      | any => cases h
      | dct _ => cases h
      | ob _ => cases h
  | ol _ => cases h
  | box _ _ => cases h
  | any => cases h
  | dct _ => cases h
  | ob _ => cases h
/-- one more, in front of the temporaries, taken from what is at hand -/
theorem Rel.take1 {M : Ent} (f : Fit σ Γ) (a : AlOk σ T) (n : ∀ i, o ≠ .al i) (r : R K G0 H ((v, o) :: (M ++ (T ++ (ents σ Γ ++ F))))) : Rel K G0 ((v, o) :: T) F σ H Γ := by
  refine ⟨f, a.cons n, ?_⟩
  have q : ((v, o) :: (M ++ (T ++ (ents σ Γ ++ F)))).Perm (M ++ ((v, o) :: (T ++ (ents σ Γ ++ F)))) := List.perm_middle.symm
  exact R.dropL (r.perm q)
end
section
variable {X : Cx} {pos : Pos} {e : Expr} {es : List Expr} {τa τb τc : TEd} {τs : TAd} {a b c : Expr}
def dTup (t : TAd) : TEd := fun Γ Kt => t Γ fun os Γ1 => escs Γ1 os fun ds Γ2 => ds.length ≤ sizeLine ∧ Kt (.fz (.tuple ds)) Γ2
theorem de_tup {x1} (h : DA X es τs) : DE X (.Tuple es x1 pos) (dTup τs) := peI (pe_tup h) fun σ H Q ⟨G0, Γ, T, F, Kt, R1, k, q⟩ => ⟨G0, Γ, T, F, _, R1, k, fun os Γ1 vs H1 k1 hl R2 => by
  obtain ⟨ds, Γ2, ⟨h1, h2⟩, hl2, R3⟩ := Rel.escapes hl R2 k1
  refine ⟨by rw [hl2]; exact h1, fun p hp => q _ Γ2 _ _ h2 ⟨R3.fit, ?_, ?_⟩⟩
  · exact AlOk.cons (fun w j m => R2.al w j (List.mem_append_right _ m)) (fun _ z => nomatch z)
  · have r := R3.r
    rw [List.append_assoc] at r
    exact R.tuple r hl2 hp⟩
def dLst (t : TAd) : TEd := fun Γ Kt => t Γ fun os Γ1 => escs Γ1 os fun ds Γ2 => ds.length ≤ sizeLine ∧ Kt (.own ds) Γ2
theorem de_lst (h : DA X es τs) : DE X (.List es pos) (dLst τs) := peI (pe_lst h) fun σ H Q ⟨G0, Γ, T, F, Kt, R1, k, q⟩ => ⟨G0, Γ, T, F, _, R1, k, fun os Γ1 vs H1 k1 hl R2 => by
  obtain ⟨ds, Γ2, ⟨h1, h2⟩, hl2, R3⟩ := Rel.escapes hl R2 k1
  refine ⟨by rw [hl2]; exact h1, fun p hp => q _ Γ2 _ _ h2 ⟨R3.fit, ?_, ?_⟩⟩
  · exact AlOk.cons (fun w j m => R2.al w j (List.mem_append_right _ m)) (fun _ z => nomatch z)
  · have r := R3.r
    rw [List.append_assoc] at r
    exact R.list r hl2 hp⟩
/-- a list whose items stay one's own -/
def dLstO (t : TAd) : TEd := fun Γ Kt => t Γ fun os Γ1 => fixN Γ1 os fun os1 Γ2 => os1.length ≤ sizeLine ∧ Kt (.ol os1) Γ2
theorem zip_maps {vs : List V} {os : List O} (h : vs.length = os.length) : (vs.zip os).map (·.1) = vs ∧ (vs.zip os).map (·.2) = os := by
  constructor
  · exact List.map_fst_zip (Nat.le_of_eq h)
  · exact List.map_snd_zip (Nat.le_of_eq h.symm)
theorem de_lstO (h : DA X es τs) : DE X (.List es pos) (dLstO τs) := peI (pe_lst h) fun σ H Q ⟨G0, Γ, T, F, Kt, R1, k, q⟩ => ⟨G0, Γ, T, F, _, R1, k, fun os Γ1 vs H1 k1 hl R2 => by
  obtain ⟨os', Γ2, ⟨h1, h2⟩, hl2, _, R3⟩ := Rel.fixedN hl R2 k1
  refine ⟨by rw [hl2]; exact h1, fun p hp => q _ Γ2 _ _ h2 ⟨R3.fit, ?_, ?_⟩⟩
  · exact AlOk.cons (fun w j m => R2.al w j (List.mem_append_right _ m)) (fun _ z => nomatch z)
  · have r := R3.r
    rw [List.append_assoc] at r
    have r2 := R.listO (p := p) r hp
    rw [(zip_maps hl2).1, (zip_maps hl2).2] at r2
    exact r2⟩
def dIx (τa τb : TEd) : TEd := fun Γ Kt => τa Γ fun o Γ1 => τb Γ1 fun p Γ2 => match vk Γ2 o, p with
  | some d, .fz (.int i) => (match itemsOf d with
    | some (_, ds) => (match atI ds i with
      | some e => Kt (.fz e) Γ2
      | none => False)
    | none => False)
  | _, _ => False
theorem atI_len {α β : Type} {xs : List α} {ys : List β} {i : Int} {y : β} (hl : xs.length = ys.length) (h : atI ys i = some y) : ∃ j : Nat, ys[j]? = some y ∧ ∃ x, xs[j]? = some x ∧ atI xs i = some x := by
  unfold atI at h ⊢
  rw [hl]
  cases e : ixN ys.length i with
  | none => rw [e] at h; cases h
  | some j =>
    rw [e] at h
    have h : ys[j]? = some y := h
    have hj : j < ys.length := (List.getElem?_eq_some_iff.mp h).1
    exact ⟨j, h, xs[j]'(by omega), List.getElem?_eq_getElem _, List.getElem?_eq_getElem (l := xs) (i := j) (by omega)⟩
theorem de_ix (ha : DE X a τa) (hb : DE X b τb) (hs : PlainIx b := by exact fun _ _ => rfl) : DE X (.Subscript a b pos) (dIx τa τb) := peI (pe_ix ix_seq ha hb hs) fun σ H Q ⟨G0, Γ, T, F, Kt, R1, k, q⟩ =>
  ⟨G0, Γ, T, F, _, R1, k, fun o Γ1 v H1 k1 R2 => ⟨G0, Γ1, (v, o) :: T, F, _, R2, k1, fun p Γ2 w H2 k2 R3 => by
    cases hv : vk Γ2 o with
    | none => simp only [hv] at k2
    | some d =>
      cases p with
      | fz pd =>
        cases pd with
        | int i =>
          simp only [hv] at k2
          cases hi : itemsOf d with
          | none => rw [hi] at k2; exact k2.elim
          | some pr =>
            obtain ⟨kd, ds⟩ := pr
            rw [hi] at k2
            have k2 : (match atI ds i with | some e => Kt (.fz e) Γ2 | none => False) := k2
            cases hx : atI ds i with
            | none => rw [hx] at k2; exact k2.elim
            | some e =>
              rw [hx] at k2
              obtain rfl := R.int R3.r
              have R4 := R3.drop
              obtain ⟨ad, vs, rfl, hq, hl, r, _⟩ := R4.kids hv hi
              obtain ⟨j, hj, x, hxj, hxi⟩ := atI_len hl hx
              have r5 := fzs_get hl hxj r
              have ej : ds.getD j .none = e := by rw [List.getD_eq_getElem?_getD, hj]; rfl
              rw [ej] at r5
              have fin : Q x H2 := q _ Γ2 x H2 k2 (Rel.take1 (M := [(V.ref ad, o)]) R4.fit R4.al.tail (fun _ z => nomatch z) r5)
              cases kd with
              | true => exact .inl ⟨ad, vs, i, x, rfl, rfl, hq, hxi, fin⟩
              | false => exact .inr (.inl ⟨ad, vs, i, x, rfl, rfl, hq, hxi, fin⟩)
        | none => simp only [hv] at k2
        | bool _ => simp only [hv] at k2
        | str _ => simp only [hv] at k2
        | list _ => simp only [hv] at k2
        | tuple _ => simp only [hv] at k2
        | dict _ => simp only [hv] at k2
      | own _ => simp only [hv] at k2
      | ol _ => simp only [hv] at k2
      | box _ _ => simp only [hv] at k2
      | al _ => simp only [hv] at k2
      | any => simp only [hv] at k2
      | dct _ => simp only [hv] at k2
      | ob _ => simp only [hv] at k2⟩⟩
def onI2 (o p : O) (k : Int → Int → Prop) : Prop := match o, p with
  | .fz (.int i), .fz (.int j) => k i j
  | _, _ => False
theorem onI2_use {o p : O} {k : Int → Int → Prop} (h : onI2 o p k) : ∃ i j, o = .fz (.int i) ∧ p = .fz (.int j) ∧ k i j := by
  unfold onI2 at h
  split at h
  · exact ⟨_, _, rfl, rfl, h⟩
  · exact h.elim
theorem fit_int {K : PySem.W.Frag} {C : Int → Int → Prop} {g : Int → Int → Int} : Fit2 K (rI C fun i j => .int (g i j)) (fun Γ o p Kt => onI2 o p fun i j => C i j ∧ Kt (.fz (.int (g i j))) Γ) := fun G0 Γ T F σ H v w o p Kt Q R1 h q => by
  obtain ⟨i, j, rfl, rfl, h⟩ := onI2_use h
  obtain rfl := R.int R1.r
  obtain rfl := R.int R1.drop.r
  exact ⟨_, _, rfl, rfl, h.1, q _ Γ _ H h.2 (R1.drop.drop.push fun _ => .int _)⟩
theorem fit_int0 {K : PySem.W.Frag} {g : Int → Int → Int} : Fit2 K (rI0 fun i j => .int (g i j)) (fun Γ o p Kt => onI2 o p fun i j => Kt (.fz (.int (g i j))) Γ) := fun G0 Γ T F σ H v w o p Kt Q R1 h q => by
  obtain ⟨i, j, rfl, rfl, h⟩ := onI2_use h
  obtain rfl := R.int R1.r
  obtain rfl := R.int R1.drop.r
  exact ⟨_, _, rfl, rfl, q _ Γ _ H h (R1.drop.drop.push fun _ => .int _)⟩
theorem fit_intB {K : PySem.W.Frag} {g : Int → Int → Bool} : Fit2 K (rI0 fun i j => .bl (g i j)) (fun Γ o p Kt => onI2 o p fun i j => Kt (.fz (.bool (g i j))) Γ) := fun G0 Γ T F σ H v w o p Kt Q R1 h q => by
  obtain ⟨i, j, rfl, rfl, h⟩ := onI2_use h
  obtain rfl := R.int R1.r
  obtain rfl := R.int R1.drop.r
  exact ⟨_, _, rfl, rfl, q _ Γ _ H h (R1.drop.drop.push fun _ => .bl _)⟩
abbrev dSubI := dBin fun Γ o p Kt => onI2 o p fun i j => Kt (.fz (.int (i - j))) Γ
abbrev dMulI := dBin fun Γ o p Kt => onI2 o p fun i j => CMul i j ∧ Kt (.fz (.int (i * j))) Γ
abbrev dModI := dBin fun Γ o p Kt => onI2 o p fun i j => 0 < j ∧ Kt (.fz (.int (i % j))) Γ
abbrev dPowI := dBin fun Γ o p Kt => onI2 o p fun i j => CPow i j ∧ Kt (.fz (.int (i ^ j.toNat))) Γ
theorem de_subI (ha : DE X a τa) (hb : DE X b τb) : DE X (.BinOp a .Sub b pos) (dSubI τa τb) := de_op fit_int0 op_sub ha hb
theorem de_mulI (ha : DE X a τa) (hb : DE X b τb) : DE X (.BinOp a .Mult b pos) (dMulI τa τb) := de_op fit_int op_mul ha hb
theorem de_modI (ha : DE X a τa) (hb : DE X b τb) : DE X (.BinOp a .Mod b pos) (dModI τa τb) := de_op fit_int op_mod ha hb
theorem de_powI (ha : DE X a τa) (hb : DE X b τb) : DE X (.BinOp a .Pow b pos) (dPowI τa τb) := de_op fit_int op_pow ha hb
def dNegI (τ : TEd) : TEd := fun Γ Kt => τ Γ fun o Γ1 => match o with
  | .fz (.int i) => Kt (.fz (.int (-i))) Γ1
  | _ => False
theorem de_neg (ha : DE X a τa) : DE X (.UnaryOp .USub a pos) (dNegI τa) := peI (pe_un un_neg ha) fun σ H Q ⟨G0, Γ, T, F, Kt, R1, k, q⟩ => ⟨G0, Γ, T, F, _, R1, k, fun o Γ1 v H1 k1 R2 => by
  split at k1
  · obtain rfl := R.int R2.r
    exact ⟨_, rfl, q _ Γ1 _ H1 k1 (R2.drop.push fun _ => .int _)⟩
  · exact k1.elim⟩
/-- + of ints, lists, tuples -/
theorem opr_or {f : Value → Value → Sem Value} {r r' : R2} (h : OpR X f r) (h' : OpR X f r') : OpR X f (fun x y H Q => r x y H Q ∨ r' x y H Q) := fun pins s σ H x y v u Q I rx ry q =>
  q.elim (fun z => h pins s σ H x y v u Q I rx ry z) fun z => h' pins s σ H x y v u Q I rx ry z
def addD (d e : PyData) (k : O → Prop) : Prop := match d, e with
  | .int i, .int j => k (.fz (.int (i + j)))
  | .list xs, .list ys => xs.length + ys.length ≤ sizeLine ∧ k (.own (xs ++ ys))
  | .tuple xs, .tuple ys => xs.length + ys.length ≤ sizeLine ∧ k (.fz (.tuple (xs ++ ys)))
  | .str x, .str y => x.length + y.length ≤ sizeLine ∧ k (.fz (.str (x ++ y)))
  | _, _ => False
def dAdd2 (Γ : Gm) (o p : O) (Kt : O → Gm → Prop) : Prop := match vk Γ o, vk Γ p with
  | some d, some e => addD d e fun z => Kt z Γ
  | _, _ => False
theorem fzs_app {vs us : List V} {ds es : List PyData} (h : vs.length = ds.length) : fzs (vs ++ us) (ds ++ es) = fzs vs ds ++ fzs us es := by
  induction vs generalizing ds with
  | nil =>
    cases ds with
    | nil => rfl
    | cons d ds => cases h
  | cons v vs ih =>
    cases ds with
    | nil => cases h
    | cons d ds => exact congrArg (fun l => (v, O.fz d) :: l) (ih (Nat.succ.inj h))
end
end Dl
end
section
namespace Dl
open PySem PySem.Spec PyProof.Rows L2
section
variable {K : PySem.W.Frag} {G0 H H' : Hp} {T F S : Ent} {σ σ' : Sl} {Γ : Gm} {v w : V} {o p : O} {d e : PyData} {i : Nat} {ds es : List PyData}
theorem Rel.kidsF {k : Bool} (r : Rel K G0 ((v, o) :: T) F σ H Γ) (h : vk Γ o = some d) (hi : itemsOf d = some (k, ds)) : ∃ a vs, v = .ref a ∧ SQ K H k a vs ∧ vs.length = ds.length ∧ (k = true → H a = some (.lst vs)) ∧ Rel K G0 ((v, o) :: T) (fzs vs ds ++ F) σ H Γ := by
  obtain ⟨a, vs, h1, h2, h3, h4, h5⟩ := r.kids h hi
  refine ⟨a, vs, h1, h2, h3, h5, r.fit, r.al, h4.perm ?_⟩
  have q : ∀ M N L : Ent, (M ++ (N ++ L)).Perm (N ++ (M ++ L)) := fun M N L => by
    rw [← List.append_assoc, ← List.append_assoc]
    exact List.perm_append_comm.append_right L
  have e1 := q (fzs vs ds) ((v, o) :: T) (ents σ Γ ++ F)
  exact e1.trans (List.Perm.append_left _ (q (fzs vs ds) (ents σ Γ) F))
theorem Rel.unF {M : Ent} (r : Rel K G0 T (M ++ F) σ H Γ) : R K G0 H (M ++ (T ++ (ents σ Γ ++ F))) := by
  have q : ∀ M N L : Ent, (M ++ (N ++ L)).Perm (N ++ (M ++ L)) := fun M N L => by
    rw [← List.append_assoc, ← List.append_assoc]
    exact List.perm_append_comm.append_right L
  have e1 := q T M (ents σ Γ ++ F)
  exact r.r.perm ((List.Perm.append_left T (q (ents σ Γ) M F)).trans e1)
/-- a new list, a new tuple of items taken from what is at hand -/
theorem Rel.newL {M : Ent} {vs : List V} {q : Addr} (r : Rel K G0 T (fzs vs ds ++ F) σ H Γ) (hl : vs.length = ds.length) (hp : H q = none) : Rel K G0 ((.ref q, .own ds) :: T) F σ (upd H q (.lst vs)) Γ :=
  ⟨r.fit, r.al.cons (fun _ z => nomatch z), R.list (Rel.unF r) hl hp⟩
theorem Rel.newT {vs : List V} {q : Addr} (r : Rel K G0 T (fzs vs ds ++ F) σ H Γ) (hl : vs.length = ds.length) (hp : H q = none) : Rel K G0 ((.ref q, .fz (.tuple ds)) :: T) F σ (upd H q (.tup vs)) Γ :=
  ⟨r.fit, r.al.cons (fun _ z => nomatch z), R.tuple (Rel.unF r) hl hp⟩
theorem vk_atom (r : Rel K G0 ((v, o) :: T) F σ H Γ) (h : vk Γ o = some d) (hi : ∀ xs, d ≠ .list xs) : R K G0 H ((v, .fz d) :: (T ++ (ents σ Γ ++ F))) := by
  cases o with
  | fz x => cases h; exact r.r
  | own xs => cases h; exact absurd rfl (hi xs)
  | al i =>
    have h : (match get Γ i with | some (.fz d) => some d | some (.own ds) => some (.list ds) | _ => none) = some d := h
    cases g : get Γ i with
    | none => rw [g] at h; cases h
    | some u =>
      rw [g] at h
      cases u with
      | fz x =>
        cases h
        obtain ⟨w, h1, h2, h3⟩ := r.out g
        have ev : σ[i]? = some (some v) := r.al v i List.mem_cons_self
        rw [h1] at ev
        cases ev
        have r2 := h2.copy
        have r3 : R K G0 H ((v, .fz d) :: ((v, .al i) :: T ++ (ents σ Γ ++ F))) := by
          obtain ⟨w, q1, q2, q3⟩ := ents_out r.fit g
          rw [h1] at q1
          cases q1
          refine r2.perm (List.Perm.cons _ ?_)
          exact (List.perm_middle (l₁ := (v, O.al i) :: T) (l₂ := ents σ (put Γ i none) ++ F) (a := (v, O.fz d))).symm.trans (List.Perm.append_left _ (q2.symm.append_right F))
        exact (R.tail (v := v) (o := .al i) (r3.perm (.swap _ _ _)))
      | own xs => cases h; exact absurd rfl (hi xs)
      | ol _ => cases h
      | box _ _ => cases h
      | al _ => cases h
      | any => cases h
      | dct _ => cases h
      | ob _ => cases h
  | ol _ => cases h
  | box _ _ => cases h
  | any => cases h
  | dct _ => cases h
  | ob _ => cases h
end
theorem vk_take {K : PySem.W.Frag} {G0 H : Hp} {T F : Ent} {σ : Sl} {Γ : Gm} {v w : V} {o : O} {d : PyData} (R1 : Rel K G0 T F σ H Γ) (r : R K G0 H ((v, .fz d) :: ((w, o) :: T ++ (ents σ Γ ++ F)))) : Rel K G0 ((v, .fz d) :: T) F σ H Γ :=
  ⟨R1.fit, R1.al.cons (fun _ z => nomatch z), R.tail (v := w) (o := o) (r.perm (.swap _ _ _))⟩
def rAdd4 (K : PySem.W.Frag) : R2 := fun x y H Q => rI0 (fun i j => .int (i + j)) x y H Q ∨ (rCat x y H Q ∨ (rCatA K x y H Q ∨ (∃ i j, x = .str i ∧ y = .str j ∧ i.length + j.length ≤ sizeLine ∧ Q (.str (i ++ j)) H)))
theorem op_add4 {X : Cx} : OpR X (binaryOp .Add) (rAdd4 X.K) := opr_or op_add (opr_or op_cat (opr_or op_catA op_add_str))
theorem fit_add {K : PySem.W.Frag} : Fit2 K (rAdd4 K) dAdd2 := fun G0 Γ T F σ H v w o p Kt Q R1 h q => by
  unfold dAdd2 at h
  cases h1 : vk Γ o with
  | none => simp only [h1] at h
  | some d =>
    cases h2 : vk Γ p with
    | none => simp only [h1, h2] at h
    | some e =>
      simp only [h1, h2] at h
      unfold addD at h
      split at h
      · rename_i i j
        obtain rfl := R.int (vk_atom R1 h2 (fun _ z => nomatch z))
        obtain rfl := R.int (vk_atom R1.drop h1 (fun _ z => nomatch z))
        exact .inl ⟨i, j, rfl, rfl, q _ Γ _ H h (R1.drop.drop.push fun _ => .int _)⟩
      · rename_i xs ys
        obtain ⟨b, us, rfl, _, l2, t2, R2⟩ := R1.kidsF h2 rfl
        obtain ⟨a, vs, rfl, _, l1, t1, R3⟩ := R2.drop.kidsF h1 rfl
        refine .inr (.inl ⟨a, b, vs, us, rfl, rfl, t1 rfl, t2 rfl, by rw [l1, l2]; exact h.1, fun n hn => q _ Γ _ _ h.2 ?_⟩)
        have R4 : Rel K G0 T (fzs (vs ++ us) (xs ++ ys) ++ F) σ H Γ := by
          rw [fzs_app l1, List.append_assoc]
          exact R3.drop
        exact Rel.newL (M := []) R4 (by rw [List.length_append, List.length_append, l1, l2]) hn
      · rename_i xs ys
        obtain ⟨b, us, rfl, hq2, l2, _, R2⟩ := R1.kidsF h2 rfl
        obtain ⟨a, vs, rfl, hq1, l1, _, R3⟩ := R2.drop.kidsF h1 rfl
        have R4 : Rel K G0 T (fzs (vs ++ us) (xs ++ ys) ++ F) σ H Γ := by
          rw [fzs_app l1, List.append_assoc]
          exact R3.drop
        refine .inr (.inr (.inl ⟨a, b, vs, us, rfl, rfl, hq1, hq2, by rw [l1, l2]; exact h.1, ?_⟩))
        refine ⟨fun z => ?_, fun z z2 => ?_, fun z z2 n hn => q _ Γ _ _ h.2 (Rel.newT R4 (by rw [List.length_append, List.length_append, l1, l2]) hn)⟩
        · have e1 : xs = [] := List.length_eq_zero_iff.mp (by rw [← l1, z]; rfl)
          subst e1
          exact q _ Γ _ H h.2 (vk_take R1.drop.drop (vk_atom R1 h2 (fun _ z => nomatch z)))
        · have e1 : ys = [] := List.length_eq_zero_iff.mp (by rw [← l2, z2]; rfl)
          subst e1
          rw [List.append_nil] at h
          exact q _ Γ _ H h.2 ⟨R1.fit, R1.drop.al.tail.cons (by intro _ z; cases z), vk_atom R1.drop h1 (fun _ z => nomatch z)⟩
      · rename_i x y
        obtain rfl := R.str (vk_atom R1 h2 (fun _ z => nomatch z))
        obtain rfl := R.str (vk_atom R1.drop h1 (fun _ z => nomatch z))
        exact .inr (.inr (.inr ⟨x, y, rfl, rfl, h.1, q _ Γ _ H h.2 (R1.drop.drop.push fun _ => .str _)⟩))
      · exact h.elim
end Dl
end
section
namespace Dl
open PySem PySem.Spec PyProof.Rows L2
def eqK (d e : PyData) (k : Bool → Prop) : Prop := match d, e with
  | .int i, .int j => k (decide (i = j))
  | .str x, .str y => (SeqAt.shaped (.str x) = true ∧ SeqAt.shaped (.str y) = true) ∧ k (decide (x = y))
  | d, e => (SeqAt.shaped d = true ∧ SeqAt.shaped e = true) ∧ k (PyData.eqv d e)
theorem eqK_use {d e : PyData} {k : Bool → Prop} (h : eqK d e k) : SeqAt.shaped d = true ∧ SeqAt.shaped e = true ∧ k (PyData.eqv d e) := by
  unfold eqK at h
  split at h
  · exact ⟨rfl, rfl, h⟩
  · rename_i x y
    refine ⟨h.1.1, h.1.2, ?_⟩
    have e : PyData.eqv (.str x) (.str y) = decide (x = y) := by
      show (x == y) = decide (x = y)
      exact Bool.beq_eq_decide_eq x y
    rw [e]
    exact h.2
  · exact ⟨h.1.1, h.1.2, h.2⟩
def dEq2 (g : Bool → Bool) (Γ : Gm) (o p : O) (Kt : O → Gm → Prop) : Prop := match vw Γ o, vw Γ p with
  | some d, some e => eqK d e fun b => Kt (.fz (.bool (g b))) Γ
  | _, _ => False
theorem dEq2_use {K : PySem.W.Frag} {G0 H : Hp} {T F : Ent} {σ : Sl} {Γ : Gm} {v w : V} {o p : O} {g : Bool → Bool} {Kt : O → Gm → Prop} (R1 : Rel K G0 ((w, p) :: (v, o) :: T) F σ H Γ) (h : dEq2 g Γ o p Kt) :
    ∃ d e, Dp K H v d ∧ Dp K H w e ∧ SeqAt.shaped d = true ∧ SeqAt.shaped e = true ∧ Kt (.fz (.bool (g (PyData.eqv d e)))) Γ := by
  unfold dEq2 at h
  cases h1 : vw Γ o with
  | none => simp only [h1] at h
  | some d =>
    cases h2 : vw Γ p with
    | none => simp only [h1, h2] at h
    | some e =>
      simp only [h1, h2] at h
      obtain ⟨a1, a2, a3⟩ := eqK_use h
      exact ⟨d, e, dq_dp d v (noDc_sh a1) (R1.drop.view h1), dq_dp e w (noDc_sh a2) (R1.view h2), a1, a2, a3⟩
theorem fit_eq {K : PySem.W.Frag} : Fit2 K (rEqD K) (dEq2 id) := fun G0 Γ T F σ H v w o p Kt Q R1 h q => by
  obtain ⟨d, e, a1, a2, a3, a4, a5⟩ := dEq2_use R1 h
  exact ⟨d, e, a1, a2, a3, a4, q _ Γ _ H a5 (R1.drop.drop.push fun _ => .bl _)⟩
theorem fit_ne {K : PySem.W.Frag} : Fit2 K (rNeD K) (dEq2 (!·)) := fun G0 Γ T F σ H v w o p Kt Q R1 h q => by
  obtain ⟨d, e, a1, a2, a3, a4, a5⟩ := dEq2_use R1 h
  exact ⟨d, e, a1, a2, a3, a4, q _ Γ _ H a5 (R1.drop.drop.push fun _ => .bl _)⟩
/-- in, not in, of flat things -/
def flatD : PyData → Bool
  | .none => true
  | .bool _ => true
  | .int _ => true
  | .str _ => true
  | _ => false
def inD (d : PyData) (ds : List PyData) : Bool := ds.any fun z => PyData.eqv z d
def dIn2 (g : Bool → Bool) (Γ : Gm) (o p : O) (Kt : O → Gm → Prop) : Prop := match vw Γ o, vk Γ p with
  | some d, some e => (match itemsOf e with
    | some (_, ds) => (flatD d = true ∧ ds.all flatD = true) ∧ Kt (.fz (.bool (g (inD d ds)))) Γ
    | none => False)
  | _, _ => False
theorem flat_V {K : PySem.W.Frag} {H : Hp} {v : V} {d : PyData} (h : Dq K H v d) (f : flatD d = true) : flatV v = true := by
  cases h with
  | non => rfl
  | bl _ => rfl
  | int _ => rfl
  | str _ => rfl
  | lst _ _ => cases f
  | tup _ _ => cases f
  | dct _ _ => cases f
theorem eqV_D {K : PySem.W.Frag} {H H2 : Hp} {v w : V} {d e : PyData} (h : Dq K H v d) (k : Dq K H2 w e) (f : flatD d = true) (g : flatD e = true) : eqV v w = PyData.eqv d e := by
  cases h with
  | lst _ _ => cases f
  | tup _ _ => cases f
  | dct _ _ => cases f
  | _ =>
    cases k with
    | lst _ _ => cases g
    | tup _ _ => cases g
    | dct _ _ => cases g
    | _ => rfl
theorem inV_D {K : PySem.W.Frag} {H H2 : Hp} {v : V} {d : PyData} (h : Dq K H v d) (f : flatD d = true) : ∀ {us : List V} {ds : List PyData}, DqAll K H2 us ds → ds.all flatD = true → us.all flatV = true ∧ inV v us = inD d ds
  | [], [], _, _ => ⟨rfl, rfl⟩
  | u :: us, e :: ds, k, g => by
    rw [List.all_cons, Bool.and_eq_true] at g
    cases k with
    | cons k1 k2 =>
      obtain ⟨h1, h2⟩ := inV_D h f k2 g.2
      refine ⟨by rw [List.all_cons, flat_V k1 g.1, h1]; rfl, ?_⟩
      unfold inV inD at h2 ⊢
      rw [List.any_cons, List.any_cons, eqV_D k1 h g.1 f, h2]
  | [], _ :: _, k, _ => by cases k
  | _ :: _, [], k, _ => by cases k
theorem fit_in {K : PySem.W.Frag} {neg : Bool} : Fit2 K (rIn K neg) (dIn2 fun b => if neg then !b else b) := fun G0 Γ T F σ H v w o p Kt Q R1 h q => by
  unfold dIn2 at h
  cases h1 : vw Γ o with
  | none => simp only [h1] at h
  | some d =>
    cases h2 : vk Γ p with
    | none => simp only [h1, h2] at h
    | some e =>
      simp only [h1, h2] at h
      cases h3 : itemsOf e with
      | none => rw [h3] at h; exact h.elim
      | some pr =>
        obtain ⟨kd, ds⟩ := pr
        rw [h3] at h
        have h : (flatD d = true ∧ ds.all flatD = true) ∧ Kt (.fz (.bool (if neg then !inD d ds else inD d ds))) Γ := h
        obtain ⟨a, us, rfl, hq, hl, _, R2⟩ := R1.kidsF h2 h3
        have hd := R1.drop.view h1
        obtain ⟨G, g, s0, s1, ha, _⟩ := (R.fzs_iff hl).mp R2.unF
        obtain ⟨f1, f2⟩ := inV_D hd h.1.1 ha h.1.2
        refine ⟨a, us, rfl, ?_, flat_V hd h.1.1, f1, ?_⟩
        · cases kd with
          | true => exact .inl hq
          | false => exact .inr hq
        · rw [f2]
          exact q _ Γ _ H h.2 (R1.drop.drop.push fun _ => .bl _)
section
variable {X : Cx} {pos : Pos} {e : Expr} {es : List Expr} {τa τb τc : TEd} {τs : TAd} {a b c : Expr} {k : Nat}
abbrev dEq := dBin (dEq2 id)
abbrev dNe := dBin (dEq2 (!·))
theorem de_add (ha : DE X a τa) (hb : DE X b τb) : DE X (.BinOp a .Add b pos) (dBin dAdd2 τa τb) := de_op fit_add op_add4 ha hb
theorem de_eq (hr : Room k X.A) (ha : DE X a τa) (hb : DE X b τb) : DE X (.Compare a [.Eq] [b] pos) (dEq τa τb) := de_cmp fit_eq (op_eqD hr.units) ha hb (nomark _)
theorem dt_eq (hr : Room k X.A) (ha : DE X a τa) (hb : DE X b τb) : DT X (.Compare a [.Eq] [b] pos) (dTest (dEq τa τb)) := dt_cmp fit_eq (op_eqD hr.units) ha hb (nomark _)
theorem dt_ne (hr : Room k X.A) (ha : DE X a τa) (hb : DE X b τb) : DT X (.Compare a [.NotEq] [b] pos) (dTest (dNe τa τb)) := dt_cmp fit_ne (op_neD hr.units) ha hb (nomark _)
abbrev dLtI := dBin fun Γ o p Kt => onI2 o p fun i j => Kt (.fz (.bool (decide (i < j)))) Γ
abbrev dGtI := dBin fun Γ o p Kt => onI2 o p fun i j => Kt (.fz (.bool (decide (j < i)))) Γ
abbrev dGeI := dBin fun Γ o p Kt => onI2 o p fun i j => Kt (.fz (.bool (decide (j ≤ i)))) Γ
theorem de_lt (ha : DE X a τa) (hb : DE X b τb) : DE X (.Compare a [.Lt] [b] pos) (dLtI τa τb) := de_cmp fit_intB op_lt ha hb (nomark _)
theorem de_ge (ha : DE X a τa) (hb : DE X b τb) : DE X (.Compare a [.GtE] [b] pos) (dGeI τa τb) := de_cmp fit_intB op_ge ha hb (nomark _)
theorem dt_lt (ha : DE X a τa) (hb : DE X b τb) : DT X (.Compare a [.Lt] [b] pos) (dTest (dLtI τa τb)) := dt_cmp fit_intB op_lt ha hb (nomark _)
theorem dt_gt (ha : DE X a τa) (hb : DE X b τb) : DT X (.Compare a [.Gt] [b] pos) (dTest (dGtI τa τb)) := dt_cmp fit_intB op_gt ha hb (nomark _)
theorem dt_in (ha : DE X a τa) (hb : DE X b τb) (hm : behindInMarks .In b = false := by rfl) : DT X (.Compare a [.In] [b] pos) (dTest (dBin (dIn2 fun b => if false then !b else b) τa τb)) := dt_cmp fit_in op_in_seq ha hb hm
def dLen (Γ : Gm) (os : List O) (Kt : O → Gm → Prop) : Prop := match os with
  | [o] => (match vw Γ o with
    | some d => (match itemsOf d with
      | some (_, ds) => Kt (.fz (.int ds.length)) Γ
      | none => False)
    | none => False)
  | _ => False
theorem dq_seq {K : PySem.W.Frag} {H : Hp} {v : V} {d : PyData} {kd : Bool} {ds : List PyData} (h : Dq K H v d) (hi : itemsOf d = some (kd, ds)) : ∃ a vs, v = .ref a ∧ SQ K H kd a vs ∧ DqAll K H vs ds := by
  cases h with
  | lst h1 h2 => cases hi; exact ⟨_, _, rfl, SqL.of h1, h2⟩
  | tup h1 h2 => cases hi; exact ⟨_, _, rfl, h1, h2⟩
  | _ => cases hi
theorem fit_len : FitC X.K (fun xs H Q => ∃ p ys, xs = [.ref p] ∧ (SqL X.K H p ys ∨ SqT X.K H p ys) ∧ Q (.int ys.length) H) dLen := fun G0 Γ T F σ H vs os Kt Q hl R1 h q => by
  unfold dLen at h
  match os, vs, hl with
  | [o], [v], _ =>
    have R1 : Rel X.K G0 ((v, o) :: T) F σ H Γ := R1
    simp only at h
    cases h1 : vw Γ o with
    | none => simp only [h1] at h
    | some d =>
      simp only [h1] at h
      cases hi : itemsOf d with
      | none => simp only [hi] at h
      | some pr =>
        obtain ⟨kd, ds⟩ := pr
        simp only [hi] at h
        obtain ⟨a, vs, rfl, hq, ha⟩ := dq_seq (R1.view h1) hi
        refine ⟨a, vs, rfl, ?_, ?_⟩
        · cases kd with
          | true => exact .inl hq
          | false => exact .inr hq
        · rw [dpAll_len ha]
          exact q _ Γ _ H h (R1.drop.push fun _ => .int _)
  | [], _, _ => exact h.elim
  | _ :: _ :: _, _, _ => exact h.elim
def onI1 (os : List O) (k : Int → Prop) : Prop := match os with
  | [.fz (.int i)] => k i
  | _ => False
theorem onI1_use {K : PySem.W.Frag} {G0 H : Hp} {T F : Ent} {σ : Sl} {Γ : Gm} {vs : List V} {os : List O} {k : Int → Prop} (hl : vs.length = os.length) (R1 : Rel K G0 (vs.zip os ++ T) F σ H Γ) (h : onI1 os k) : ∃ i, vs = [.int i] ∧ k i ∧ Rel K G0 T F σ H Γ := by
  unfold onI1 at h
  split at h
  · rename_i i
    match vs, hl with
    | [v], _ =>
      have R1 : Rel K G0 ((v, .fz (.int i)) :: T) F σ H Γ := R1
      obtain rfl := R.int R1.r
      exact ⟨i, rfl, h, R1.drop⟩
  · exact h.elim
def onI12 (os : List O) (k : Int → Int → Prop) : Prop := match os with
  | [.fz (.int i), .fz (.int j)] => k i j
  | _ => False
theorem onI12_use {K : PySem.W.Frag} {G0 H : Hp} {T F : Ent} {σ : Sl} {Γ : Gm} {vs : List V} {os : List O} {k : Int → Int → Prop} (hl : vs.length = os.length) (R1 : Rel K G0 (vs.zip os ++ T) F σ H Γ) (h : onI12 os k) : ∃ i j, vs = [.int i, .int j] ∧ k i j ∧ Rel K G0 T F σ H Γ := by
  unfold onI12 at h
  split at h
  · rename_i i j
    match vs, hl with
    | [v, w], _ =>
      have R1 : Rel K G0 ((v, .fz (.int i)) :: (w, .fz (.int j)) :: T) F σ H Γ := R1
      obtain rfl := R.int R1.r
      have R2 := R1.drop
      obtain rfl := R.int R2.r
      exact ⟨i, j, rfl, h, R2.drop⟩
  · exact h.elim
theorem fit_abs : FitC X.K (fun xs H Q => ∃ i, xs = [.int i] ∧ Q (.int (if i < 0 then -i else i)) H) (fun Γ os Kt => onI1 os fun i => Kt (.fz (.int (if i < 0 then -i else i))) Γ) := fun G0 Γ T F σ H vs os Kt Q hl R1 h q => by
  obtain ⟨i, rfl, h, R2⟩ := onI1_use hl R1 h
  exact ⟨i, rfl, q _ Γ _ H h (R2.push fun _ => .int _)⟩
theorem fit_min2 : FitC X.K (fun xs H Q => ∃ i j, xs = [.int i, .int j] ∧ Q (.int (if j < i then j else i)) H) (fun Γ os Kt => onI12 os fun i j => Kt (.fz (.int (if j < i then j else i))) Γ) := fun G0 Γ T F σ H vs os Kt Q hl R1 h q => by
  obtain ⟨i, j, rfl, h, R2⟩ := onI12_use hl R1 h
  exact ⟨i, j, rfl, q _ Γ _ H h (R2.push fun _ => .int _)⟩
def dInt1 (Γ : Gm) (os : List O) (Kt : O → Gm → Prop) : Prop := match os with
  | [.fz (.int i)] => Kt (.fz (.int i)) Γ
  | [.fz (.bool b)] => Kt (.fz (.int (if b then 1 else 0))) Γ
  | _ => False
theorem fit_int1 : FitC X.K (fun xs H Q => (∃ i, xs = [.int i] ∧ Q (.int i) H) ∨ ∃ k, xs = [.bl k] ∧ Q (.int (if k then 1 else 0)) H) dInt1 := fun G0 Γ T F σ H vs os Kt Q hl R1 h q => by
  unfold dInt1 at h
  split at h
  · rename_i i
    match vs, hl with
    | [v], _ =>
      have R1 : Rel X.K G0 ((v, .fz (.int i)) :: T) F σ H Γ := R1
      obtain rfl := R.int R1.r
      exact .inl ⟨i, rfl, q _ Γ _ H h R1⟩
  · rename_i b
    match vs, hl with
    | [v], _ =>
      have R1 : Rel X.K G0 ((v, .fz (.bool b)) :: T) F σ H Γ := R1
      obtain rfl := R.bl R1.r
      exact .inr ⟨b, rfl, q _ Γ _ H h (R1.drop.push fun _ => .int _)⟩
  · exact h.elim
/-- a list of ints at hand -/
def onInts (Γ : Gm) (os : List O) (k : List Int → Prop) : Prop := match os with
  | [o] => (match vw Γ o with
    | some (.list ds) => ∃ is, ds = is.map PyData.int ∧ k is
    | _ => False)
  | _ => False
theorem onInts_use {K : PySem.W.Frag} {G0 H : Hp} {T F : Ent} {σ : Sl} {Γ : Gm} {vs : List V} {os : List O} {k : List Int → Prop} (hl : vs.length = os.length) (R1 : Rel K G0 (vs.zip os ++ T) F σ H Γ) (h : onInts Γ os k) :
    ∃ a is, vs = [.ref a] ∧ SqL K H a (is.map V.int) ∧ k is ∧ Rel K G0 T F σ H Γ := by
  unfold onInts at h
  match os, vs, hl with
  | [o], [v], _ =>
    have R1 : Rel K G0 ((v, o) :: T) F σ H Γ := R1
    simp only at h
    cases h1 : vw Γ o with
    | none => simp only [h1] at h
    | some d =>
      simp only [h1] at h
      cases d with
      | list ds =>
        obtain ⟨is, rfl, h⟩ := h
        have hd := R1.view h1
        cases hd with
        | lst e1 e2 =>
          have e3 := dpAll_ints_inv e2
          subst e3
          exact ⟨_, is, rfl, SqL.of e1, h, R1.drop⟩
      | _ => exact h.elim
  | [], _, _ => exact h.elim
  | _ :: _ :: _, _, _ => exact h.elim
theorem fit_sorted : FitC X.K (rSortedI X.K) (fun Γ os Kt => onInts Γ os fun is => ∀ js : List Int, js.Perm is → js.Pairwise (· ≤ ·) → Kt (.own (js.map .int)) Γ) := fun G0 Γ T F σ H vs os Kt Q hl R1 h q => by
  obtain ⟨a, is, rfl, hs, h, R2⟩ := onInts_use hl R1 h
  refine ⟨a, is, rfl, hs, fun js p h1 h2 hp => q _ Γ _ _ (h js h1 h2) ?_⟩
  have R3 : Rel X.K G0 T (fzs (js.map V.int) (js.map PyData.int) ++ F) σ H Γ := ints_F R2 js
  exact Rel.newL (M := []) R3 (by rw [List.length_map, List.length_map]) hp
where
  ints_F {K : PySem.W.Frag} {G0 H : Hp} {T F : Ent} {σ : Sl} {Γ : Gm} (r : Rel K G0 T F σ H Γ) : ∀ js : List Int, Rel K G0 T (fzs (js.map V.int) (js.map PyData.int) ++ F) σ H Γ
    | [] => r
    | j :: js => ((ints_F r js).push fun _ => .int j).toF
/-- list(x), tuple(x) -/
def dToL (Γ : Gm) (os : List O) (Kt : O → Gm → Prop) : Prop := match os with
  | [o] => (match vk Γ o with
    | some d => (match itemsOf d with
      | some (_, ds) => Kt (.own ds) Γ
      | none => False)
    | none => False)
  | _ => False
theorem fit_list : FitC X.K (fun xs H Q => ∃ p ys, xs = [.ref p] ∧ (SqL X.K H p ys ∨ SqT X.K H p ys) ∧ ∀ l, H l = none → Q (.ref l) (upd H l (.lst ys))) dToL := fun G0 Γ T F σ H vs os Kt Q hl R1 h q => by
  unfold dToL at h
  match os, vs, hl with
  | [o], [v], _ =>
    have R1 : Rel X.K G0 ((v, o) :: T) F σ H Γ := R1
    simp only at h
    cases h1 : vk Γ o with
    | none => simp only [h1] at h
    | some d =>
      simp only [h1] at h
      cases hi : itemsOf d with
      | none => simp only [hi] at h
      | some pr =>
        obtain ⟨kd, ds⟩ := pr
        simp only [hi] at h
        obtain ⟨a, us, rfl, hq, hl2, _, R2⟩ := R1.kidsF h1 hi
        refine ⟨a, us, rfl, ?_, fun l hp => q _ Γ _ _ h (Rel.newL (M := []) R2.drop hl2 hp)⟩
        cases kd with
        | true => exact .inl hq
        | false => exact .inr hq
  | [], _, _ => exact h.elim
  | _ :: _ :: _, _, _ => exact h.elim
def dToT (Γ : Gm) (os : List O) (Kt : O → Gm → Prop) : Prop := match os with
  | [o] => (match vk Γ o with
    | some d => (match itemsOf d with
      | some (_, ds) => Kt (.fz (.tuple ds)) Γ
      | none => False)
    | none => False)
  | _ => False
theorem fit_tuple : FitC X.K (fun xs H Q => ∃ p ys, xs = [.ref p] ∧ ((SqL X.K H p ys ∧ ∀ l, H l = none → Q (.ref l) (upd H l (.tup ys))) ∨ (SqT X.K H p ys ∧ Q (.ref p) H))) dToT := fun G0 Γ T F σ H vs os Kt Q hl R1 h q => by
  unfold dToT at h
  match os, vs, hl with
  | [o], [v], _ =>
    have R1 : Rel X.K G0 ((v, o) :: T) F σ H Γ := R1
    simp only at h
    cases h1 : vk Γ o with
    | none => simp only [h1] at h
    | some d =>
      simp only [h1] at h
      cases hi : itemsOf d with
      | none => simp only [hi] at h
      | some pr =>
        obtain ⟨kd, ds⟩ := pr
        simp only [hi] at h
        obtain ⟨a, us, rfl, hq, hl2, _, R2⟩ := R1.kidsF h1 hi
        refine ⟨a, us, rfl, ?_⟩
        cases kd with
        | true => exact .inl ⟨hq, fun l hp => q _ Γ _ _ h (Rel.newT R2.drop hl2 hp)⟩
        | false =>
          have ed : d = .tuple ds := by
            cases d with
            | tuple xs => cases hi; rfl
            | list xs => cases hi
            | _ => cases hi
          subst ed
          exact .inr ⟨hq, q _ Γ _ H h ⟨R1.fit, R1.al.tail.cons (by intro _ z; cases z), vk_atom R1 h1 (by intro _ z; cases z)⟩⟩
  | [], _, _ => exact h.elim
  | _ :: _ :: _, _, _ => exact h.elim
/-- all, any of a list of truth values -/
def onBs (Γ : Gm) (os : List O) (k : List Bool → Prop) : Prop := match os with
  | [o] => (match vw Γ o with
    | some (.list ds) => ∃ bs, ds = bs.map PyData.bool ∧ k bs
    | _ => False)
  | _ => False
theorem dqAll_bools {K : PySem.W.Frag} {G : Hp} : ∀ {bs : List Bool} {vs : List V}, DqAll K G vs (bs.map PyData.bool) → vs = bs.map V.bl
  | [], _, h => by cases h; rfl
  | b :: bs, _, h => by
    cases h with
    | cons h1 h2 => cases h1; rw [dqAll_bools h2]; rfl
theorem onBs_use {K : PySem.W.Frag} {G0 H : Hp} {T F : Ent} {σ : Sl} {Γ : Gm} {vs : List V} {os : List O} {k : List Bool → Prop} (hl : vs.length = os.length) (R1 : Rel K G0 (vs.zip os ++ T) F σ H Γ) (h : onBs Γ os k) :
    ∃ a bs, vs = [.ref a] ∧ SqL K H a (bs.map V.bl) ∧ k bs ∧ Rel K G0 T F σ H Γ := by
  unfold onBs at h
  match os, vs, hl with
  | [o], [v], _ =>
    have R1 : Rel K G0 ((v, o) :: T) F σ H Γ := R1
    simp only at h
    cases h1 : vw Γ o with
    | none => simp only [h1] at h
    | some d =>
      simp only [h1] at h
      cases d with
      | list ds =>
        obtain ⟨bs, rfl, h⟩ := h
        have hd := R1.view h1
        cases hd with
        | lst e1 e2 =>
          have e3 := dqAll_bools e2
          subst e3
          exact ⟨_, bs, rfl, SqL.of e1, h, R1.drop⟩
      | _ => exact h.elim
  | [], _, _ => exact h.elim
  | _ :: _ :: _, _, _ => exact h.elim
theorem fit_all : FitC X.K (rAll X.K) (fun Γ os Kt => onBs Γ os fun bs => Kt (.fz (.bool (bs.all id))) Γ) := fun G0 Γ T F σ H vs os Kt Q hl R1 h q => by
  obtain ⟨a, bs, rfl, hs, h, R2⟩ := onBs_use hl R1 h
  exact ⟨a, bs, rfl, hs, q _ Γ _ H h (R2.push fun _ => .bl _)⟩
variable {x : Str} {p : Pos} {r : List V → Hp → VK → Prop} {ρ : Gm → List O → (O → Gm → Prop) → Prop} {id' : String} {Ty : String}
theorem de_b (hf : FitC X.K r ρ) (hc : CallR X (.builtin id') r) (hg : Gl X x) (hm : X.mg x = none) (hv : bootBuiltins x = some (.builtin id')) (ha : DA X (e :: es) τs) (hn : x ≠ "__name__" := by decide) (hdb : (x == ("__debug__" : Str)) = false := by decide)
    (he : starEach (e :: es) X.env = (false, eval e X.env) :: starEach es X.env := by rfl) (hpl : (backTo pos (starEach es X.env)).any (·.1) = false := by rfl) : DE X (.Call (.Name x p) (e :: es) [] pos) (dCB ρ τs) := dCB_of hf (pe_callB hc hg hm hv ha hn hdb he hpl)
theorem de_ty (hf : FitC X.K r ρ) (hc : CallR X (.type Ty) r) (hg : Gl X x) (hm : X.mg x = none) (hv : bootBuiltins x = some (.type Ty)) (ha : DA X (e :: es) τs) (hn : x ≠ "__name__" := by decide) (hdb : (x == ("__debug__" : Str)) = false := by decide)
    (he : starEach (e :: es) X.env = (false, eval e X.env) :: starEach es X.env := by rfl) (hpl : (backTo pos (starEach es X.env)).any (·.1) = false := by rfl) : DE X (.Call (.Name x p) (e :: es) [] pos) (dCB ρ τs) := dCB_of hf (pe_callTy hc hg hm hv ha hn hdb he hpl)
end
end Dl
end
section
namespace Dl
open PySem PySem.Spec PyProof.Rows L2
section
variable {K : PySem.W.Frag} {G0 H H' : Hp} {T F S : Ent} {σ σ' : Sl} {Γ : Gm} {v w : V} {o p : O} {d e : PyData} {i : Nat} {ds es : List PyData}
/-- slot i holds a list of one's own: it is written; items ys at hand may come in, items us may come out -/
theorem Rel.wr {ys : List V} {zs : List PyData} (r : Rel K G0 T (fzs ys zs ++ F) σ H Γ) (hl : ys.length = zs.length) (g : get Γ i = some (.own ds)) :
    ∃ q vs, σ[i]? = some (some (.ref q)) ∧ H q = some (.lst vs) ∧ vs.length = ds.length ∧ ∀ (vs' us : List V) (ds' cs : List PyData), (∀ G, DqAll K G vs ds → DqAll K G ys zs → DqAll K G vs' ds' ∧ DqAll K G us cs) → us.length = cs.length →
      Rel K G0 T (fzs us cs ++ F) σ (upd H q (.lst vs')) (put Γ i (some (.own ds'))) := by
  obtain ⟨v, h1, h2, h3⟩ := r.out g
  have pq : ∀ M N L : Ent, (M ++ (N ++ L)).Perm (N ++ (M ++ L)) := fun M N L => by
    rw [← List.append_assoc, ← List.append_assoc]
    exact List.perm_append_comm.append_right L
  have h4 : R K G0 H ((v, .own ds) :: (fzs ys zs ++ (T ++ (ents σ (put Γ i none) ++ F)))) := by
    refine h2.perm (List.Perm.cons _ ?_)
    exact (List.Perm.append_left T (pq _ _ _)).trans (pq T _ _)
  obtain ⟨q, vs, rfl, e1, e2, e3⟩ := h4.write hl
  refine ⟨q, vs, h1, e1, e2, fun vs' us ds' cs hk hl2 => ?_⟩
  have r5 := e3 vs' us ds' cs hk hl2
  refine Rel.back (σ := σ) (v := .ref q) (o := .own ds') h3 r.al (get_lt g) h1 ?_
  have r6 : R K G0 (upd H q (.lst vs')) (fzs ys zs ++ ((V.ref q, .own ds') :: (fzs us cs ++ (T ++ (ents σ (put Γ i none) ++ F))))) := r5.perm (by
    exact (List.Perm.cons _ (pq (fzs us cs) (fzs ys zs) _)).trans (List.perm_middle (l₁ := fzs ys zs) (l₂ := fzs us cs ++ (T ++ (ents σ (put Γ i none) ++ F))) (a := (V.ref q, O.own ds'))).symm)
  refine r6.dropL.perm (List.Perm.cons _ ?_)
  exact (pq (fzs us cs) T _).trans (List.Perm.append_left T (pq (fzs us cs) _ _))
end
section
variable {X : Cx} {pos : Pos} {e : Expr} {es : List Expr} {τ τa τb τc : TEd} {τs : TAd} {a b c : Expr} {k : Nat}
def FitM (K : PySem.W.Frag) (i : Nat) (r : V → List V → Hp → VK → Prop) (ρ : Gm → List O → (O → Gm → Prop) → Prop) : Prop :=
  ∀ (G0 : Hp) (Γ : Gm) (T F : Ent) (σ : Sl) (H : Hp) (v : V) (vs : List V) (os : List O) (Kt : O → Gm → Prop) (Q : VK), σ[i]? = some (some v) → vs.length = os.length → Rel K G0 (vs.zip os ++ T) F σ H Γ → ρ Γ os Kt →
    (∀ z Γ' u H', Kt z Γ' → Rel K G0 ((u, z) :: T) F σ H' Γ' → Q u H') → r v vs H Q
def isOwn (o : Option O) : Prop := match o with
  | some (.own _) => True
  | _ => False
theorem isOwn_use {o : Option O} (h : isOwn o) : ∃ ds, o = some (.own ds) := by
  unfold isOwn at h
  split at h
  · exact ⟨_, rfl⟩
  · exact h.elim
def dMeth (i : Nat) (ρ : Gm → List O → (O → Gm → Prop) → Prop) (t : TAd) : TEd := fun Γ Kt => isOwn (get Γ i) ∧ t Γ fun os Γ1 => ρ Γ1 os Kt
theorem dMeth_of {i : Nat} {r : V → List V → Hp → VK → Prop} {ρ : Gm → List O → (O → Gm → Prop) → Prop} {e : Expr} (hf : FitM X.K i r ρ) (h : PE X e (tBM X.K "list" r (tVar i) (liftA X.K τs))) : DE X e (dMeth i ρ τs) :=
  peI h fun σ H Q ⟨G0, Γ, T, F, Kt, R1, ⟨k0, k⟩, q⟩ => by
    obtain ⟨ds, g⟩ := isOwn_use k0
    obtain ⟨v, h1, h2, _⟩ := R1.out g
    obtain ⟨a, vs, rfl, e1, _⟩ := h2.itemsO
    exact ⟨_, h1, .inl ⟨rfl, vs, SqL.of e1⟩, G0, Γ, T, F, _, R1, k, fun os Γ1 vs H1 k1 hl R2 => hf G0 Γ1 T F σ H1 _ vs os Kt Q h1 hl R2 k1 q⟩
def rhoApp (i : Nat) (Γ : Gm) (os : List O) (Kt : O → Gm → Prop) : Prop := match os with
  | [o] => esc Γ o fun d Γ2 => (match get Γ2 i with
    | some (.own ds) => ds.length < sizeLine ∧ Kt (.fz .none) (put Γ2 i (some (.own (ds ++ [d]))))
    | _ => False)
  | _ => False
theorem own_of {o : Option O} {A : List PyData → Prop} (h : match o with | some (.own ds) => A ds | _ => False) : ∃ ds, o = some (.own ds) ∧ A ds := by
  split at h
  · exact ⟨_, rfl, h⟩
  · exact h.elim
theorem fit_append {i : Nat} : FitM X.K i rAppend (rhoApp i) := fun G0 Γ T F σ H v vs os Kt Q hv hl R1 h q => by
  unfold rhoApp at h
  match os, vs, hl with
  | [o], [u], _ =>
    have R1 : Rel X.K G0 ((u, o) :: T) F σ H Γ := R1
    obtain ⟨d, Γ2, h2, R2⟩ := R1.escape h
    obtain ⟨ds, g, h3, h4⟩ := own_of (A := fun ds => ds.length < sizeLine ∧ Kt (.fz .none) (put Γ2 i (some (.own (ds ++ [d]))))) h2
    obtain ⟨p, ws, e1, e2, e3, e4⟩ := Rel.wr (ys := [u]) (zs := [d]) (F := F) R2.toF rfl g
    rw [hv] at e1
    cases e1
    refine ⟨p, ws, u, rfl, rfl, e2, by rw [e3]; exact h3, q _ _ _ _ h4 (Rel.push (e4 (ws ++ [u]) [] (ds ++ [d]) [] (fun G a b => ⟨dpAll_app a b, .nil⟩) rfl) fun _ => .non)⟩
  | [], _, _ => exact h.elim
  | _ :: _ :: _, _, _ => exact h.elim
def rhoPopAt (i : Nat) (Γ : Gm) (os : List O) (Kt : O → Gm → Prop) : Prop := match os with
  | [.fz (.int k)] => (match get Γ i with
    | some (.own ds) => 0 ≤ k ∧ k < ds.length ∧ k < 2 ^ 63 ∧ Kt (.fz (ds.getD k.toNat .none)) (put Γ i (some (.own (ds.eraseIdx k.toNat))))
    | _ => False)
  | _ => False
theorem fit_popAt {i : Nat} : FitM X.K i rPopAt (rhoPopAt i) := fun G0 Γ T F σ H v vs os Kt Q hv hl R1 h q => by
  unfold rhoPopAt at h
  split at h
  · rename_i k
    match vs, hl with
    | [u], _ =>
      have R1 : Rel X.K G0 ((u, .fz (.int k)) :: T) F σ H Γ := R1
      obtain rfl := R.int R1.r
      obtain ⟨ds, g, h1, h2, h3, h4⟩ := own_of (A := fun ds => 0 ≤ k ∧ k < ds.length ∧ k < 2 ^ 63 ∧ Kt (.fz (ds.getD k.toNat .none)) (put Γ i (some (.own (ds.eraseIdx k.toNat))))) h
      obtain ⟨p, ws, e1, e2, e3, e4⟩ := Rel.wr (ys := []) (zs := []) (F := F) R1.drop rfl g
      rw [hv] at e1
      cases e1
      have hk : k.toNat < ws.length := by omega
      have hs : seqIndex? k ws.length = some k.toNat := seqIndex_of h1 (by omega)
      refine ⟨p, ws, k, k.toNat, ws[k.toNat], rfl, rfl, e2, by omega, h3, hs, List.getElem?_eq_getElem hk, ?_⟩
      have R3 := e4 (ws.eraseIdx k.toNat) [ws[k.toNat]] (ds.eraseIdx k.toNat) [ds.getD k.toNat .none] (fun G a b => ⟨dpAll_erase _ a, .cons ?_ .nil⟩) rfl
      · exact q _ _ _ _ h4 R3.ofF
      · have hd : ds[k.toNat]? = some (ds[k.toNat]'(by omega)) := List.getElem?_eq_getElem _
        obtain ⟨x, hx, hx2⟩ := dpAll_get a hd
        rw [List.getElem?_eq_getElem hk] at hx
        cases hx
        rw [List.getD_eq_getElem?_getD, hd]
        exact hx2
  · exact h.elim
theorem de_append (i : Nat) {x : Str} {ap cp p0 : Pos} {e : Expr} (hv : PE X (.Name x p0) (tVar i)) (ha : DA X [e] τs) (h1 : attributeBase (.Name x p0) "append" X.env (eval (.Name x p0) X.env) = eval (.Name x p0) X.env := by rfl) (h3 : (ap.endLine == cp.line) = true := by rfl)
    (h2 : ((backTo cp (starEach [e] X.env)).all (fun z => !z.1) && (backToKw cp (keywordEach [] X.env)).all (fun z => z.1.isSome) && decide (([e].length + ([] : List Keyword).length + if ([] : List Keyword).isEmpty = true then 0 else 1) < 30)) = true := by rfl)
    (h4 : starEach [e] X.env = (false, eval e X.env) :: starEach [] X.env := by rfl) : DE X (.Call (.Attribute (.Name x p0) "append" ap) [e] [] cp) (dMeth i (rhoApp i) τs) :=
  dMeth_of fit_append (pe_bm PySem.F.plainAttrs_list PySem.F.slot_list_append PySem.F.type_list_append mt_append hv ha h1 h2 h3 h4)
theorem de_popAt (i : Nat) {x : Str} {ap cp p0 : Pos} {e : Expr} (hv : PE X (.Name x p0) (tVar i)) (ha : DA X [e] τs) (h1 : attributeBase (.Name x p0) "pop" X.env (eval (.Name x p0) X.env) = eval (.Name x p0) X.env := by rfl) (h3 : (ap.endLine == cp.line) = true := by rfl)
    (h2 : ((backTo cp (starEach [e] X.env)).all (fun z => !z.1) && (backToKw cp (keywordEach [] X.env)).all (fun z => z.1.isSome) && decide (([e].length + ([] : List Keyword).length + if ([] : List Keyword).isEmpty = true then 0 else 1) < 30)) = true := by rfl)
    (h4 : starEach [e] X.env = (false, eval e X.env) :: starEach [] X.env := by rfl) : DE X (.Call (.Attribute (.Name x p0) "pop" ap) [e] [] cp) (dMeth i (rhoPopAt i) τs) :=
  dMeth_of fit_popAt (pe_bm PySem.F.plainAttrs_list PySem.F.slot_list_pop PySem.F.type_list_pop mt_popAt hv ha h1 h2 h3 h4)
/-- x[k] = e, x a list of one's own in slot i -/
def dStore (i : Nat) (τi τ : TEd) : TSd := fun E Γ => τ Γ fun o Γ1 => esc Γ1 o fun d Γ2 => isOwn (get Γ2 i) ∧ τi Γ2 fun p Γ3 => match p with
  | .fz (.int k) => (match get Γ3 i with
    | some (.own ds) => (match ixN ds.length k with
      | some m => E.nx (put Γ3 i (some (.own (ds.set m d))))
      | none => False)
    | _ => False)
  | _ => False
theorem ds_store (i : Nat) {x : Str} {p0 p1 : Pos} {ie : Expr} (hv : PE X (.Name x p0) (tVar i)) (hi : DE X ie τa) (he : DE X e τ)
    (ha : ∀ v, assign (.Subscript (.Name x p0) ie p1) X.env v = (do
      let ov ← holding [v] (eval (.Name x p0) X.env)
      let iv ← holding [v, ov] (eval ie X.env)
      standAt p1
      holding [v, ov, iv] (setItem ov iv v)
      release [v, ov, iv] []) := by intro _; rfl) (hs : swapsWithSole [.Subscript (.Name x p0) ie p1] e pos.line X.env = pure false := by rfl) (hw : swappedStores [.Subscript (.Name x p0) ie p1] e X.env = pure none := by rfl)
    (h1 : (assignEach [.Subscript (.Name x p0) ie p1] X.env).map (·.2) = [assign (.Subscript (.Name x p0) ie p1) X.env] := by rfl) : DS X (.Assign [.Subscript (.Name x p0) ie p1] e pos) (dStore i τa τ) :=
  psI (ps_asg he (pg_sub hv hi set_list ha) hs hw h1) fun D σ H ⟨G0, Γ, F, E, R1, k, q⟩ => ⟨G0, Γ, [], F, _, R1, k, fun o Γ1 v H1 k1 R2 => by
    obtain ⟨d, Γ2, ⟨k0, k2⟩, R3⟩ := R2.escape k1
    obtain ⟨ds0, g0⟩ := isOwn_use k0
    obtain ⟨u, hu, _, _⟩ := R3.out g0
    refine ⟨u, hu, G0, Γ2, [(v, .fz d)], F, _, R3, k2, fun p Γ3 w H3 k3 R4 => ?_⟩
    split at k3
    · rename_i j
      obtain ⟨ds, g, k4⟩ := own_of (A := fun ds => match ixN ds.length j with | some m => E.nx (put Γ3 i (some (.own (ds.set m d)))) | none => False) k3
      obtain rfl := R.int R4.r
      obtain ⟨p, ws, e1, e2, e3, e4⟩ := Rel.wr (ys := [v]) (zs := [d]) (F := F) R4.drop.toF rfl g
      rw [hu] at e1
      cases e1
      cases hx : ixN ds.length j with
      | none => rw [hx] at k4; exact k4.elim
      | some m =>
        rw [hx] at k4
        refine ⟨p, ws, j, m, rfl, rfl, e2, by rw [e3]; exact hx, q.nx _ _ _ k4 (e4 (ws.set m v) [] (ds.set m d) [] (fun G a b => ⟨?_, .nil⟩) rfl)⟩
        cases b with
        | cons b1 b2 => exact dpAll_set b1 m a
    · exact k3.elim⟩
/-- [..] * n -/
def dRep2 (Γ : Gm) (o p : O) (Kt : O → Gm → Prop) : Prop := match vk Γ o, p with
  | some (.list ds), .fz (.int k) => (-(2 ^ 63) ≤ k ∧ k < 2 ^ 63 ∧ ds.length * k.toNat ≤ sizeLine) ∧ Kt (.own (List.replicate k.toNat ds).flatten) Γ
  | _, _ => False
theorem dqAll_rep {K : PySem.W.Frag} {G : Hp} {vs : List V} {ds : List PyData} (h : DqAll K G vs ds) : ∀ n : Nat, DqAll K G (List.replicate n vs).flatten (List.replicate n ds).flatten
  | 0 => .nil
  | n + 1 => dpAll_app h (dqAll_rep h n)
theorem fit_rep {K : PySem.W.Frag} : Fit2 K rRep dRep2 := fun G0 Γ T F σ H v w o p Kt Q R1 h q => by
  unfold dRep2 at h
  split at h
  · rename_i ds j h1
    obtain rfl := R.int R1.r
    obtain ⟨a, vs, rfl, _, hl, t1, R2⟩ := R1.drop.kidsF h1 rfl
    obtain ⟨⟨b1, b2, b3⟩, h2⟩ := h
    refine ⟨a, j, vs, rfl, rfl, t1 rfl, b1, b2, by rw [hl]; exact b3, fun l hp => q _ Γ _ _ h2 ?_⟩
    obtain ⟨G, g, s0, s1, ha, hb, nd, hn⟩ := (R.fzs_iff hl).mp R2.drop.unF
    have hl3 := dpAll_len (dqAll_rep ha j.toNat)
    have r3 : R K G0 H (fzs (List.replicate j.toNat vs).flatten (List.replicate j.toNat ds).flatten ++ (T ++ (ents σ Γ ++ F))) := (R.fzs_iff hl3).mpr ⟨G, g, s0, s1, dqAll_rep ha _, hb, nd, hn⟩
    exact ⟨R1.fit, R1.drop.drop.al.cons (by intro _ z; cases z), R.list r3 hl3 hp⟩
  · exact h.elim
theorem de_rep (ha : DE X a τa) (hb : DE X b τb) : DE X (.BinOp a .Mult b pos) (dBin dRep2 τa τb) := de_op fit_rep op_rep ha hb
abbrev TPd := Gm → (Option Int → Gm → Prop) → Prop
def liftP (K : PySem.W.Frag) (τ : TPd) : TO := fun σ H Q => ∃ G0 Γ T F Kt, Rel K G0 T F σ H Γ ∧ τ Γ Kt ∧ ∀ l Γ' H', Kt l Γ' → Rel K G0 T F σ H' Γ' → Q l H'
abbrev DP (X : Cx) (e : Option Expr) (τ : TPd) : Prop := PO X e (liftP X.K τ)
theorem poI {e : Option Expr} {t t' : TO} (h : PO X e t) (f : ∀ σ H Q, t' σ H Q → t σ H Q) : PO X e t' := ⟨fun pins s σ H Q I q => h.run pins s σ H Q I (f σ H Q q)⟩
def dNoP : TPd := fun Γ Kt => Kt none Γ
def dPart (τ : TEd) : TPd := fun Γ Kt => τ Γ fun o Γ1 => match o with
  | .fz (.int i) => Kt (some i) Γ1
  | _ => False
theorem dp_none : DP X none dNoP := poI po_none fun σ H Q ⟨G0, Γ, T, F, Kt, R1, k, q⟩ => q none Γ H k R1
theorem dp_some (h : DE X e τ) : DP X (some e) (dPart τ) := poI (po_some h) fun σ H Q ⟨G0, Γ, T, F, Kt, R1, k, q⟩ => ⟨G0, Γ, T, F, _, R1, k, fun o Γ1 v H1 k1 R2 => by
  split at k1
  · obtain rfl := R.int R2.r
    exact ⟨_, rfl, q _ Γ1 H1 k1 R2.drop⟩
  · exact k1.elim⟩
def cutD (ds : List PyData) (lo hi : Option Int) : List PyData := (ds.drop (HT.sIx ds.length 0 lo)).take (HT.sIx ds.length ds.length hi - HT.sIx ds.length 0 lo)
theorem cut_all (ds : List PyData) {lo hi : Option Int} (h1 : HT.sIx ds.length 0 lo = 0) (h2 : HT.sIx ds.length ds.length hi = ds.length) : cutD ds lo hi = ds := by
  unfold cutD
  rw [h1, h2, List.drop_zero, Nat.sub_zero, List.take_length]
def dSlice (τ : TEd) (tl th : TPd) : TEd := fun Γ Kt => τ Γ fun o Γ1 => tl Γ1 fun lo Γ2 => th Γ2 fun hi Γ3 => match vk Γ3 o with
  | some (.list ds) => Kt (.own (cutD ds lo hi)) Γ3
  | some (.tuple ds) => Kt (.fz (.tuple (cutD ds lo hi))) Γ3
  | _ => False
variable {tl th : TPd} {lo hi : Option Expr} {p2 : Pos}
theorem de_slice (he : DE X e τ) (hl : DP X lo tl) (hh : DP X hi th) : DE X (.Subscript e (.Slice lo hi none p2) pos) (dSlice τ tl th) := peI (pe_slice (SlR.or sl_list sl_tupA) he hl hh) fun σ H Q ⟨G0, Γ, T, F, Kt, R1, k, q⟩ =>
  ⟨G0, Γ, T, F, _, R1, k, fun o Γ1 v H1 k1 R2 => ⟨G0, Γ1, (v, o) :: T, F, _, R2, k1, fun l Γ2 H2 k2 R3 => ⟨G0, Γ2, (v, o) :: T, F, _, R3, k2, fun u Γ3 H3 k3 R4 => by
    have cutdq : ∀ {vs : List V} {ds : List PyData}, vs.length = ds.length → Rel X.K G0 T (fzs vs ds ++ F) σ H3 Γ3 → Rel X.K G0 T (fzs (cutV vs l u) (cutD ds l u) ++ F) σ H3 Γ3 ∧ (cutV vs l u).length = (cutD ds l u).length := fun {vs ds} hl r => by
      obtain ⟨G, g, s0, s1, ha, hb, nd, hn⟩ := (R.fzs_iff hl).mp r.unF
      have hc : DqAll X.K G (cutV vs l u) (cutD ds l u) := by
        unfold cutV cutD
        rw [hl]
        exact dpAll_take _ (dpAll_drop _ ha)
      have hl2 := dpAll_len hc
      refine ⟨⟨r.fit, r.al, ((R.fzs_iff hl2).mpr ⟨G, g, s0, s1, hc, hb, nd, hn⟩).perm ?_⟩, hl2⟩
      have pq : ∀ M N L : Ent, (M ++ (N ++ L)).Perm (N ++ (M ++ L)) := fun M N L => by
        rw [← List.append_assoc, ← List.append_assoc]
        exact List.perm_append_comm.append_right L
      exact (pq _ T _).trans (List.Perm.append_left T (pq _ _ F))
    split at k3
    · rename_i ds h1
      obtain ⟨a, vs, rfl, hq, hl, _, R5⟩ := R4.kidsF h1 rfl
      obtain ⟨R6, hl6⟩ := cutdq hl R5.drop
      exact .inl ⟨a, vs, rfl, hq, fun n hn => q _ Γ3 _ _ k3 (Rel.newL (M := []) R6 hl6 hn)⟩
    · rename_i ds h1
      obtain ⟨a, vs, rfl, hq, hl, _, R5⟩ := R4.kidsF h1 rfl
      obtain ⟨R6, hl6⟩ := cutdq hl R5.drop
      refine .inr ⟨a, vs, rfl, hq, fun ⟨z1, z2⟩ => ?_, fun _ n hn => q _ Γ3 _ _ k3 (Rel.newT R6 hl6 hn)⟩
      rw [hl] at z1 z2
      rw [cut_all ds z1 z2] at k3
      exact q _ Γ3 _ H3 k3 ⟨R4.fit, R4.al.tail.cons (by intro _ z; cases z), vk_atom R4 h1 (by intro _ z; cases z)⟩
    · exact k3.elim⟩⟩⟩
end
end Dl
end
section
namespace Dl
open PySem PySem.Spec PyProof.Rows L2
def wipeG (Γ : Gm) : List Nat → Gm
  | [] => Γ
  | v :: vs => put (wipeG Γ vs) v none
theorem fit_put_none : ∀ {σ : Sl} {Γ : Gm} {i : Nat}, Fit σ Γ → Fit (σ.set i none) (put Γ i none) ∧ ents (σ.set i none) (put Γ i none) = ents σ (put Γ i none)
  | [], [], _, _ => ⟨trivial, rfl⟩
  | none :: σ, none :: Γ, 0, f => ⟨f, rfl⟩
  | some w :: σ, none :: Γ, 0, f => ⟨f, rfl⟩
  | some w :: σ, some u :: Γ, 0, f => ⟨f, rfl⟩
  | none :: σ, none :: Γ, i + 1, f => fit_put_none (σ := σ) (Γ := Γ) (i := i) f
  | some w :: σ, none :: Γ, i + 1, f => fit_put_none (σ := σ) (Γ := Γ) (i := i) f
  | some w :: σ, some u :: Γ, i + 1, f => by
    obtain ⟨h1, h2⟩ := fit_put_none (σ := σ) (Γ := Γ) (i := i) f
    exact ⟨h1, congrArg ((w, u) :: ·) h2⟩
  | none :: _, some _ :: _, _, f => f.elim
  | [], _ :: _, _, f => f.elim
  | none :: _, [], _, f => f.elim
  | some _ :: _, [], _, f => f.elim
theorem fit_unset : ∀ {σ : Sl} {Γ : Gm} {i : Nat}, Fit (σ.set i none) Γ → Fit σ Γ ∧ ents σ Γ = ents (σ.set i none) Γ
  | [], Γ, i, f => ⟨f, rfl⟩
  | x :: σ, none :: Γ, 0, f => by
    have f : Fit σ Γ := f
    cases x <;> exact ⟨f, rfl⟩
  | x :: σ, some u :: Γ, 0, f => f.elim
  | x :: σ, [], 0, f => f.elim
  | none :: σ, none :: Γ, i + 1, f => fit_unset (σ := σ) (Γ := Γ) (i := i) f
  | some w :: σ, none :: Γ, i + 1, f => fit_unset (σ := σ) (Γ := Γ) (i := i) f
  | some w :: σ, some u :: Γ, i + 1, f => by
    obtain ⟨h1, h2⟩ := fit_unset (σ := σ) (Γ := Γ) (i := i) f
    exact ⟨h1, congrArg ((w, u) :: ·) h2⟩
  | none :: σ, some u :: Γ, i + 1, f => f.elim
  | none :: σ, [], i + 1, f => f.elim
  | some w :: σ, [], i + 1, f => f.elim
theorem fit_unwipe : ∀ {vs : List Nat} {σ : Sl} {Γ : Gm}, Fit (wipe σ vs) Γ → Fit σ Γ ∧ ents σ Γ = ents (wipe σ vs) Γ
  | [], _, _, f => ⟨f, rfl⟩
  | v :: vs, σ, Γ, f => by
    obtain ⟨h1, h2⟩ := fit_unset (σ := wipe σ vs) (Γ := Γ) (i := v) f
    obtain ⟨h3, h4⟩ := fit_unwipe (vs := vs) h1
    exact ⟨h3, h4.trans h2⟩
theorem wipe_in {σ : Sl} {i : Nat} : ∀ {vs : List Nat}, i ∈ vs → (wipe σ vs)[i]? = if i < σ.length then some none else none
  | v :: vs, h => by
    unfold wipe
    rw [List.getElem?_set]
    by_cases hv : v = i
    · rw [if_pos hv, wipe_length]
      subst hv
      rfl
    · rw [if_neg hv]
      exact wipe_in (List.mem_of_ne_of_mem (Ne.symm hv) h)
theorem agree_wipe {ws vs : List Nat} {σ σ' : Sl} (a : Agree ws σ σ') (h : ∀ i ∈ ws, i ∈ vs) : wipe σ' vs = wipe σ vs := by
  apply List.ext_getElem?
  intro i
  by_cases hi : i ∈ vs
  · rw [wipe_in hi, wipe_in hi, a.1]
  · rw [wipe_out hi, wipe_out hi]
    exact a.2 i fun z => hi (h i z)
section
variable {K : PySem.W.Frag} {G0 H H' : Hp} {T F S : Ent} {σ σ' : Sl} {Γ : Gm} {v w : V} {o p : O} {d e : PyData} {i : Nat} {ds es : List PyData}
theorem Rel.wiped (r : Rel K G0 [] F σ H Γ) : ∀ vs : List Nat, Rel K G0 [] F (wipe σ vs) H (wipeG Γ vs)
  | [] => r
  | v :: vs => by
    have r1 := Rel.wiped r vs
    have r2 := r1.forget v
    obtain ⟨h1, h2⟩ := fit_put_none (i := v) r1.fit
    refine ⟨h1, fun _ _ m => by simp at m, ?_⟩
    show R K G0 H ([] ++ (ents ((wipe σ vs).set v none) (put (wipeG Γ vs) v none) ++ F))
    rw [h2]
    exact r2.r
theorem Rel.allF : ∀ {T F : Ent}, Rel K G0 T F σ H Γ → Rel K G0 [] (T ++ F) σ H Γ
  | [], _, r => r
  | (v, o) :: T, F, r => by
    have r1 := Rel.allF (T := T) (F := (v, o) :: F) (Rel.toF' r)
    refine ⟨r1.fit, r1.al, r1.r.perm ?_⟩
    exact List.Perm.append_left _ (List.Perm.append_left _ List.perm_middle)
theorem Rel.unallF (a : AlOk σ T) (r : Rel K G0 [] (T ++ F) σ H Γ) : Rel K G0 T F σ H Γ := by
  refine ⟨r.fit, a, r.r.perm ?_⟩
  show (ents σ Γ ++ (T ++ F)).Perm (T ++ (ents σ Γ ++ F))
  rw [← List.append_assoc, ← List.append_assoc]
  exact List.perm_append_comm.append_right F
end
section
variable {X : Cx} {pos : Pos} {e : Expr} {es : List Expr} {τ τa τb τc : TEd} {τs : TAd} {a b c : Expr} {k : Nat}
abbrev DTs (X : Cx) (ifs : List Expr) (τ : TTd) : Prop := PTs X ifs (liftT X.K τ)
def dYes : TTd := fun Γ Kt => Kt true Γ
theorem dts_nil : DTs X [] dYes := ⟨fun pins s σ H Q I ⟨G0, Γ, T, F, Kt, R1, k, q⟩ => pts_nil.run pins s σ H Q I (q true Γ H k R1)⟩
theorem dts_one {c : Expr} {τ : TTd} (h : DT X c τ) : DTs X [c] τ := pts_one h
def dLc (τi : TId) (γ : TGd) (tt : TTd) (te : TEd) (vs : List Nat) : TEd := fun Γ Kt => τi Γ fun n it Γ1 => ∃ Iv : Nat → List PyData → Gm → Prop, Iv 0 [] (wipeG Γ1 vs) ∧
  (∀ i acc Γ2, i < n → Iv i acc Γ2 → γ (it i) Γ2 fun Γ3 => tt Γ3 fun b Γ4 => (b = true → te Γ4 fun o Γ5 => esc Γ5 o fun d Γ6 => acc.length < sizeLine ∧ Iv (i + 1) (acc ++ [d]) (wipeG Γ6 vs)) ∧ (b = false → Iv (i + 1) acc (wipeG Γ4 vs))) ∧
  ∀ acc Γ2, Iv n acc Γ2 → Kt (.own acc) Γ2
variable {tg iter : Expr} {elt : Expr} {ifs : List Expr} {scope : Scope} {own : List (Str × Nat)} {ws : List Nat} {τi : TId} {γ : TGd} {tt : TTd} {te : TEd}
theorem lc_read {K : PySem.W.Frag} {vs : List Nat} {σ : Sl} {H : Hp} {Q : VK} (hw : ∀ i ∈ ws, i ∈ vs) (h : liftE K (dLc τi γ tt te vs) σ H Q) : tLc (liftI K τi) (liftG K ws γ) (liftT K tt) (liftE K te) vs σ H Q := by
  obtain ⟨G0, Γ, T, F, Kt, R1, k, q⟩ := h
  refine ⟨G0, Γ, T, F, _, R1, k, fun n it Γ1 J S H1 ⟨Iv, i0, is, ie⟩ fd R2 D hD => ?_⟩
  have r0 : Rel K G0 [] (T ++ (S ++ F)) (wipe σ vs) H1 (wipeG Γ1 vs) := (Rel.allF R2).wiped vs
  have r1 : Rel K G0 [] ((.ref D, .own []) :: (T ++ (S ++ F))) (wipe σ vs) (upd H1 D (.lst [])) (wipeG Γ1 vs) := (Rel.newL (M := []) (ds := []) (vs := []) (F := T ++ (S ++ F)) r0 rfl hD).toF'
  have rS : ∀ {M : Ent} {σ H Γ}, Rel K G0 [] (M ++ (T ++ (S ++ F))) σ H Γ → R K G0 H (S ++ (M ++ (T ++ (ents σ Γ ++ F)))) := fun {M σ H Γ} r => r.r.perm (by
    have pq : ∀ M N L : Ent, (M ++ (N ++ L)).Perm (N ++ (M ++ L)) := fun M N L => by
      rw [← List.append_assoc, ← List.append_assoc]
      exact List.perm_append_comm.append_right L
    show (ents σ Γ ++ (M ++ (T ++ (S ++ F)))).Perm (S ++ (M ++ (T ++ (ents σ Γ ++ F))))
    refine (pq (ents σ Γ) M _).trans ?_
    refine (List.Perm.append_left M ((pq (ents σ Γ) T _).trans (List.Perm.append_left T (pq (ents σ Γ) S F)))).trans ?_
    refine (List.Perm.append_left M (pq T S _)).trans (pq M S _))
  refine ⟨fun i m H => m = n - i ∧ i ≤ n ∧ ∃ acc Γ, Iv i acc Γ ∧ Rel K G0 [] ((.ref D, .own acc) :: (T ++ (S ++ F))) (wipe σ vs) H Γ, ⟨n, rfl, Nat.zero_le _, [], _, i0, r1⟩, ?_⟩
  rintro i m H2 ⟨rfl, hle, acc, Γ2, iv, R3⟩
  by_cases hlt : i < n
  · obtain ⟨g1, g2⟩ := fd.step (rS (M := [(.ref D, .own acc)]) R3) hlt
    refine .inr ⟨g1, fun H' => ∃ acc Γ, Iv (i + 1) acc Γ ∧ Rel K G0 [] ((.ref D, .own acc) :: (T ++ (S ++ F))) (wipe σ vs) H' Γ, fun H' h => ⟨n - (i + 1), by omega, rfl, hlt, h⟩, fun x H' hy => ?_⟩
    have r4 := g2 x H' hy
    have R4 : Rel K G0 [] ((x, .fz (it i)) :: ((.ref D, .own acc) :: (T ++ (S ++ F)))) (wipe σ vs) H' Γ2 := ⟨R3.fit, R3.al, r4.perm (by
      have pq : ∀ M N L : Ent, (M ++ (N ++ L)).Perm (N ++ (M ++ L)) := fun M N L => by
        rw [← List.append_assoc, ← List.append_assoc]
        exact List.perm_append_comm.append_right L
      show ((x, O.fz (it i)) :: (S ++ ([(V.ref D, O.own acc)] ++ (T ++ (ents (wipe σ vs) Γ2 ++ F))))).Perm (ents (wipe σ vs) Γ2 ++ ([(x, O.fz (it i))] ++ ([(V.ref D, O.own acc)] ++ (T ++ (S ++ F)))))
      refine List.Perm.trans ?_ (pq [(x, O.fz (it i))] (ents (wipe σ vs) Γ2) _)
      refine List.Perm.cons _ ?_
      refine (pq S [(V.ref D, O.own acc)] _).trans ?_
      refine List.Perm.trans ?_ (pq [(V.ref D, O.own acc)] (ents (wipe σ vs) Γ2) _)
      refine List.Perm.cons _ ?_
      refine (pq S T _).trans ?_
      refine List.Perm.trans ?_ (pq T (ents (wipe σ vs) Γ2) _)
      exact List.Perm.append_left T (pq S _ F))⟩
    refine ⟨G0, Γ2, (.ref D, .own acc) :: (T ++ (S ++ F)), it i, _, R4, is i acc Γ2 hlt iv, fun Γ3 σ3 H3 k3 ag R5 => ⟨?_, G0, Γ3, [], _, _, R5, k3, fun b Γ4 H4 k4 R6 => ?_⟩⟩
    · rw [agree_wipe ag hw]
      exact wipe_wipe σ vs
    · have hw3 : wipe σ3 vs = wipe σ vs := by rw [agree_wipe ag hw]; exact wipe_wipe σ vs
      cases b with
      | false =>
        refine iteF ?_
        refine ⟨acc, _, k4.2 rfl, ?_⟩
        rw [← hw3]
        exact Rel.wiped R6 vs
      | true =>
        refine iteT ?_
        refine ⟨G0, Γ4, [], _, _, R6, k4.1 rfl, fun o Γ5 y H5 k5 R7 => ?_⟩
        obtain ⟨d, Γ6, ⟨z1, k6⟩, R8⟩ := R7.escape k5
        have r9 : R K G0 H5 ((.ref D, .own acc) :: (fzs [y] [d] ++ (ents σ3 Γ6 ++ (T ++ (S ++ F))))) := R8.r.perm (by
          show ((y, O.fz d) :: (ents σ3 Γ6 ++ ((V.ref D, O.own acc) :: (T ++ (S ++ F))))).Perm ((V.ref D, O.own acc) :: (y, O.fz d) :: (ents σ3 Γ6 ++ (T ++ (S ++ F))))
          exact (List.Perm.cons _ List.perm_middle).trans (.swap _ _ _))
        obtain ⟨p, us, e0, e1, e2, e3⟩ := r9.write rfl
        cases e0
        refine ⟨us, e1, by rw [e2]; exact z1, acc ++ [d], _, k6, ?_⟩
        have r10 := e3 (us ++ [y]) [] (acc ++ [d]) [] (fun G a b => ⟨dpAll_app a b, .nil⟩) rfl
        have R9 : Rel K G0 [] ((.ref D, .own (acc ++ [d])) :: (T ++ (S ++ F))) σ3 (upd H5 D (.lst (us ++ [y]))) Γ6 := ⟨R8.fit, fun _ _ m => by simp at m, (R.tail (v := y) (o := .fz d) (L := (.ref D, .own (acc ++ [d])) :: (ents σ3 Γ6 ++ (T ++ (S ++ F)))) (r10.perm (.swap _ _ _))).perm (by
          exact List.perm_middle.symm)⟩
        rw [← hw3]
        exact R9.wiped vs
  · obtain rfl : i = n := by omega
    have fr := fd.stop (rS (M := [(.ref D, .own acc)]) R3)
    refine .inl ⟨fr, ?_⟩
    obtain ⟨f1, f2⟩ := fit_unwipe R3.fit
    have R4 : Rel K G0 [] ((.ref D, .own acc) :: (T ++ (S ++ F))) σ H2 Γ2 := ⟨f1, fun _ _ m => by simp at m, by
      show R K G0 H2 (ents σ Γ2 ++ _)
      rw [f2]
      exact R3.r⟩
    have R5 : Rel K G0 T (S ++ ((.ref D, .own acc) :: F)) σ H2 Γ2 := Rel.unallF R2.al ⟨R4.fit, R4.al, R4.r.perm (by
      show (ents σ Γ2 ++ ((V.ref D, O.own acc) :: (T ++ (S ++ F)))).Perm (ents σ Γ2 ++ (T ++ (S ++ ((V.ref D, O.own acc) :: F))))
      refine List.Perm.append_left _ ?_
      refine List.Perm.trans ?_ (List.Perm.append_left T List.perm_middle.symm)
      exact List.perm_middle.symm)⟩
    exact q _ Γ2 _ H2 (ie acc Γ2 iv) (Rel.ofF' (by intro _ z; cases z) R5.dropF)
where
  wipe_wipe (σ : Sl) (vs : List Nat) : wipe (wipe σ vs) vs = wipe σ vs := by
    apply List.ext_getElem?
    intro i
    by_cases hi : i ∈ vs
    · rw [wipe_in hi, wipe_in hi, wipe_length]
    · rw [wipe_out hi]
theorem de_lc (hN : X.N.Nodup) (hi : DI X tg iter τi) (ok : BlkOk X.N X.env.scope scope own)
    (hg : ∀ (s : Shared) (H : Hp) (C : Addr) (cl : List (Str × Addr)) (fp : List Addr), DG (X.blk s H scope (compEnvC scope cl C X.env) fp) tg ws γ) (ht : ∀ (s : Shared) (H : Hp) (C : Addr) (cl : List (Str × Addr)) (fp : List Addr), DTs (X.blk s H scope (compEnvC scope cl C X.env) fp) ifs tt)
    (he : ∀ (s : Shared) (H : Hp) (C : Addr) (cl : List (Str × Addr)) (fp : List Addr), DE (X.blk s H scope (compEnvC scope cl C X.env) fp) elt te) (hw : ∀ i ∈ ws, i ∈ own.map (·.2) := by decide) (hc : X.calm = true := by rfl) (hs : ∀ x, foldedSetIterable iter X.env x = pure x := by intro _; rfl) :
    DE X (.ListComp elt [⟨tg, iter, ifs, 0⟩] scope pos) (dLc τi γ tt te (own.map (·.2))) := peI (pe_lc hc hN hi ok hg ht he hs) fun σ H Q h => lc_read hw h
def tyName : PyData → String
  | .none => "NoneType"
  | .bool _ => "bool"
  | .int _ => "int"
  | .str _ => "str"
  | .list _ => "list"
  | .tuple _ => "tuple"
  | .dict _ => "dict"
def isT (d : PyData) (T : String) : Bool := match d, T with
  | .bool _, "bool" => true
  | .bool _, "int" => true
  | .int _, "int" => true
  | .str _, "str" => true
  | .list _, "list" => true
  | .tuple _, "tuple" => true
  | _, _ => false
end
end Dl
end
section
namespace Dl
open PySem PySem.Spec PyProof.Rows L2
section
variable {K : PySem.W.Frag} {H : Hp} {v : V} {d : PyData}
theorem dq_ty (h : Dq K H v d) : TyX K H v (.type (tyName d)) := by
  cases h with
  | non => exact .base .non
  | bl b => exact .base (.bl b)
  | int i => exact .base (.int i)
  | str x => exact .base (.str x)
  | lst e _ => exact .base (.lst e)
  | tup e _ =>
    rcases e with (e | ⟨o, e⟩) | ⟨o, its, n, e, c, _⟩
    · exact .base (.tup e)
    · exact .fTuple e
    · exact .kTuple e c
  | dct e _ => exact .base (.dK e)
def noDict : PyData → Prop
  | .dict _ => False
  | _ => True
theorem isi_list : ∀ d : PyData, noDict d → kitB (tyName d) "list" = some (isT d "list")
  | .none, _ => (by decide +kernel : kitB "NoneType" "list" = some false)
  | .bool _, _ => (by decide +kernel : kitB "bool" "list" = some false)
  | .int _, _ => (by decide +kernel : kitB "int" "list" = some false)
  | .str _, _ => (by decide +kernel : kitB "str" "list" = some false)
  | .list _, _ => (by decide +kernel : kitB "list" "list" = some true)
  | .tuple _, _ => (by decide +kernel : kitB "tuple" "list" = some false)
  | .dict _, h => h.elim
theorem isi_tuple : ∀ d : PyData, noDict d → kitB (tyName d) "tuple" = some (isT d "tuple")
  | .none, _ => (by decide +kernel : kitB "NoneType" "tuple" = some false)
  | .bool _, _ => (by decide +kernel : kitB "bool" "tuple" = some false)
  | .int _, _ => (by decide +kernel : kitB "int" "tuple" = some false)
  | .str _, _ => (by decide +kernel : kitB "str" "tuple" = some false)
  | .list _, _ => (by decide +kernel : kitB "list" "tuple" = some false)
  | .tuple _, _ => (by decide +kernel : kitB "tuple" "tuple" = some true)
  | .dict _, h => h.elim
theorem isi_bool : ∀ d : PyData, noDict d → kitB (tyName d) "bool" = some (isT d "bool")
  | .none, _ => (by decide +kernel : kitB "NoneType" "bool" = some false)
  | .bool _, _ => (by decide +kernel : kitB "bool" "bool" = some true)
  | .int _, _ => (by decide +kernel : kitB "int" "bool" = some false)
  | .str _, _ => (by decide +kernel : kitB "str" "bool" = some false)
  | .list _, _ => (by decide +kernel : kitB "list" "bool" = some false)
  | .tuple _, _ => (by decide +kernel : kitB "tuple" "bool" = some false)
  | .dict _, h => h.elim
theorem isi_int : ∀ d : PyData, noDict d → kitB (tyName d) "int" = some (isT d "int")
  | .none, _ => (by decide +kernel : kitB "NoneType" "int" = some false)
  | .bool _, _ => (by decide +kernel : kitB "bool" "int" = some true)
  | .int _, _ => (by decide +kernel : kitB "int" "int" = some true)
  | .str _, _ => (by decide +kernel : kitB "str" "int" = some false)
  | .list _, _ => (by decide +kernel : kitB "list" "int" = some false)
  | .tuple _, _ => (by decide +kernel : kitB "tuple" "int" = some false)
  | .dict _, h => h.elim
theorem isi_str : ∀ d : PyData, noDict d → kitB (tyName d) "str" = some (isT d "str")
  | .none, _ => (by decide +kernel : kitB "NoneType" "str" = some false)
  | .bool _, _ => (by decide +kernel : kitB "bool" "str" = some false)
  | .int _, _ => (by decide +kernel : kitB "int" "str" = some false)
  | .str _, _ => (by decide +kernel : kitB "str" "str" = some true)
  | .list _, _ => (by decide +kernel : kitB "list" "str" = some false)
  | .tuple _, _ => (by decide +kernel : kitB "tuple" "str" = some false)
  | .dict _, h => h.elim
def IsiOk (T : String) : Prop := ∀ d : PyData, noDict d → kitB (tyName d) T = some (isT d T)
end
section
variable {X : Cx} {pos : Pos} {e : Expr} {es : List Expr} {τ τa τb τc : TEd} {τs : TAd} {a b c : Expr} {k : Nat} {T T1 T2 : String} {p p1 p2 p3 : Pos} {x1 x2 : Str}
def dIsi (τ : TEd) (f : PyData → Bool) : TEd := fun Γ Kt => τ Γ fun o Γ1 => match vw Γ1 o with
  | some d => noDict d ∧ Kt (.fz (.bool (f d))) Γ1
  | none => False
theorem dIsi_use {K : PySem.W.Frag} {G0 H : Hp} {T F : Ent} {σ : Sl} {Γ : Gm} {v : V} {o : O} {f : PyData → Bool} {Kt : O → Gm → Prop} (R1 : Rel K G0 ((v, o) :: T) F σ H Γ) (h : match vw Γ o with | some d => noDict d ∧ Kt (.fz (.bool (f d))) Γ | none => False) :
    ∃ d, Dq K H v d ∧ noDict d ∧ Kt (.fz (.bool (f d))) Γ := by
  cases q : vw Γ o with
  | none => simp only [q] at h
  | some d =>
    simp only [q] at h
    exact ⟨d, R1.view q, h.1, h.2⟩
theorem de_isi (T : String) (hT : IsiOk T) (he : DE X e τ) (hg : Gl X "isinstance") (hm : X.mg "isinstance" = none) (hg1 : Gl X x1) (hm1 : X.mg x1 = none) (hv1 : bootBuiltins x1 = some (.type T)) (hn1 : x1 ≠ "__name__" := by decide) (hd1 : (x1 == ("__debug__" : Str)) = false := by decide)
    (hs : starEach (e :: [.Name x1 p1]) X.env = (false, eval e X.env) :: starEach [.Name x1 p1] X.env := by rfl) (hs1 : starEach (.Name x1 p1 :: []) X.env = (false, eval (.Name x1 p1) X.env) :: starEach [] X.env := by rfl) (hpl : (backTo pos (starEach [.Name x1 p1] X.env)).any (·.1) = false := by rfl) :
    DE X (.Call (.Name "isinstance" p) [e, .Name x1 p1] [] pos) (dIsi τ fun d => isT d T) :=
  peI (pe_callB call_isi hg hm (by decide +kernel) (pa_cons he (pa_cons (pe_bltn (v := .ty T) hg1 hm1 hv1 rfl hn1 hd1) pa_nil hs1) hs) (by decide) (by decide) hs hpl) fun σ H Q ⟨G0, Γ, Tm, F, Kt, R1, k, q⟩ => ⟨G0, Γ, Tm, F, _, R1, k, fun o Γ1 v H1 k1 R2 => by
    obtain ⟨d, h1, h2, h3⟩ := dIsi_use (f := fun d => isT d T) R2 k1
    exact ⟨v, .ty T, _, _, _, rfl, .ty T, dq_ty h1, kit_ty (hT d h2), q _ Γ1 _ H1 h3 (R2.drop.push fun _ => .bl _)⟩⟩
theorem de_isi2 (T1 T2 : String) (hT1 : IsiOk T1) (hT2 : IsiOk T2) (he : DE X e τ) (hg : Gl X "isinstance") (hm : X.mg "isinstance" = none) (hg1 : Gl X x1) (hm1 : X.mg x1 = none) (hv1 : bootBuiltins x1 = some (.type T1)) (hg2 : Gl X x2) (hm2 : X.mg x2 = none) (hv2 : bootBuiltins x2 = some (.type T2)) {kk : Nat}
    (hn1 : x1 ≠ "__name__" := by decide) (hd1 : (x1 == ("__debug__" : Str)) = false := by decide) (hn2 : x2 ≠ "__name__" := by decide) (hd2 : (x2 == ("__debug__" : Str)) = false := by decide)
    (hs : starEach (e :: [.Tuple [.Name x1 p1, .Name x2 p2] kk p3]) X.env = (false, eval e X.env) :: starEach [.Tuple [.Name x1 p1, .Name x2 p2] kk p3] X.env := by rfl) (hs1 : starEach (.Tuple [.Name x1 p1, .Name x2 p2] kk p3 :: []) X.env = (false, eval (.Tuple [.Name x1 p1, .Name x2 p2] kk p3) X.env) :: starEach [] X.env := by rfl)
    (hs2 : starEach (.Name x1 p1 :: [.Name x2 p2]) X.env = (false, eval (.Name x1 p1) X.env) :: starEach [.Name x2 p2] X.env := by rfl) (hs3 : starEach (.Name x2 p2 :: []) X.env = (false, eval (.Name x2 p2) X.env) :: starEach [] X.env := by rfl)
    (hpl : (backTo pos (starEach [.Tuple [.Name x1 p1, .Name x2 p2] kk p3] X.env)).any (·.1) = false := by rfl) :
    DE X (.Call (.Name "isinstance" p) [e, .Tuple [.Name x1 p1, .Name x2 p2] kk p3] [] pos) (dIsi τ fun d => isT d T1 || isT d T2) :=
  peI (pe_callB call_isiT hg hm (by decide +kernel) (pa_cons he (pa_cons (pe_tup (pa_cons (pe_bltn (v := .ty T1) hg1 hm1 hv1 rfl hn1 hd1) (pa_cons (pe_bltn (v := .ty T2) hg2 hm2 hv2 rfl hn2 hd2) pa_nil hs3) hs2)) pa_nil hs1) hs) (by decide) (by decide) hs hpl) fun σ H Q ⟨G0, Γ, Tm, F, Kt, R1, k, q⟩ => ⟨G0, Γ, Tm, F, _, R1, k, fun o Γ1 v H1 k1 R2 => by
    obtain ⟨d, h1, h2, h3⟩ := dIsi_use (f := fun d => isT d T1 || isT d T2) R2 k1
    refine ⟨by show 2 ≤ sizeLine; decide, fun n hn => ?_⟩
    have sm : Same H1 (upd H1 n (.tup [.ty T1, .ty T2])) := same_upd hn
    have e1 : PySem.W.kitOne X.K (.type (tyName d)) (.type T1) = some (isT d T1) := kit_ty (hT1 d h2)
    have e2 : PySem.W.kitOne X.K (.type (tyName d)) (.type T2) = some (isT d T2) := kit_ty (hT2 d h2)
    refine ⟨v, n, _, _, [.type T1, .type T2], isT d T1 || isT d T2, rfl, upd_same, .cons (.ty T1) (.cons (.ty T2) .nil), dq_ty (dp_mono sm d v h1), kitAny_cons e1 (fun z => kitAny_cons e2 (fun z2 => ?_) (fun z2 => ?_)) (fun z => ?_), q _ Γ1 _ _ h3 ((R2.drop.grow sm).push fun _ => .bl _)⟩
    · rw [z, z2]; exact kitAny_nil
    · rw [z2, Bool.or_true]
    · rw [z]; rfl⟩
def Can (P : Program) (w : World) (K : PySem.W.Frag) (mg : Str → Option Value) (base : Heap) (k : Nat) (x : Str) (ps : List Str) (sp : Sp) : Prop :=
  ∃ f fd, mg x = some (.ref f) ∧ PySem.W.keepIn K (.ref f) = true ∧ Binds K fd ps [] ∧ FnOk P w K mg base CX0 k f fd ps sp
def At (K : PySem.W.Frag) (mg : Str → Option Value) (x : Str) (st : Stmt) (ps : List Str) : Prop :=
  ∃ f fd, Fun K x x st f fd ∧ mg x = some (.ref f) ∧ Binds K fd ps []
variable {P : Program} {w : World} {K : PySem.W.Frag} {mg : Str → Option Value} {base : Heap} {x : Str} {ps : List Str} {n j : Nat} {φ : List PyData → (O → Prop) → Prop} {φb : Nat → List PyData → (O → Nat → Prop) → Prop}
theorem Can.mono {sp : Sp} {k j : Nat} (c : Can P w K mg base k x ps sp) (h : k ≤ j) : Can P w K mg base j x ps sp := by
  obtain ⟨f, fd, h1, h2, h3, h4⟩ := c
  exact ⟨f, fd, h1, h2, h3, h4.mono h⟩
theorem At.canP {st : Stmt} {N : List Str} {k : Nat} (A : At K mg x st ps) (S : FnScope N ps (defScope st)) (hn : ps.length = n)
    (hbody : ∀ (f : Addr) (cdv : Value) (A : Around) (outer : List Env) (s : Shared) (H : Hp) (E : XK), Room k (A.deeper (envOfC x (defScope st) s.heap.objs.size f cdv)) →
      ∃ τ, DSs (cxOf CX0 P w K mg base N x (defScope st) f cdv A outer s H E).nox (defBody st) τ ∧ ∀ ds Kt, ds.length = n → φ ds Kt → τ { nx := fun _ => Kt (.fz .none), rt := fun o _ => Kt o } (startG N (ds.map .fz))) : Can P w K mg base (k + 1) x ps (spP K n φ) := by
  obtain ⟨f, fd, h1, h2, h3⟩ := A
  exact ⟨f, fd, h2, h1.kp, h3, fnP h1 S hn fun cdv A outer s H E hr => hbody f cdv A outer s H E hr⟩
theorem At.canB {st : Stmt} {N : List Str} {k : Nat} (A : At K mg x st ps) (S : FnScope N ps (defScope st)) (hn : ps.length = n + 1)
    (hbody : ∀ (f : Addr) (cdv : Value) (A : Around) (outer : List Env) (s : Shared) (H : Hp) (E : XK), Room k (A.deeper (envOfC x (defScope st) s.heap.objs.size f cdv)) →
      ∃ τ, DSs (cxOf CX0 P w K mg base N x (defScope st) f cdv A outer s H E).nox (defBody st) τ ∧ ∀ p m ds Kt, ds.length = n → φb m ds Kt →
        τ { nx := fun Γ => ∃ m', get Γ 0 = some (.box p m') ∧ Kt (.fz .none) m', rt := fun o Γ => ∃ m', get Γ 0 = some (.box p m') ∧ Kt o m' } (startG N (.box p m :: ds.map .fz))) : Can P w K mg base (k + 1) x ps (spB K n φb) := by
  obtain ⟨f, fd, h1, h2, h3⟩ := A
  exact ⟨f, fd, h2, h1.kp, h3, fnB h1 S hn fun cdv A outer s H E hr => hbody f cdv A outer s H E hr⟩
theorem de_canP {j k : Nat} (C : Can X.prog X.w X.K X.mg X.base j x ps (spP X.K n φ)) (hr : Room k X.A) (ha : DA X (e :: es) τs) (hj : j ≤ k := by decide) (hg : Gl X x := by rfl)
    (hdb : (x == ("__debug__" : Str)) = false := by decide) (he : starEach (e :: es) X.env = (false, eval e X.env) :: starEach es X.env := by rfl) (hpl : (backTo pos (starEach es X.env)).any (·.1) = false := by rfl) :
    DE X (.Call (.Name x p) (e :: es) [] pos) (dCallP n φ τs) := by
  obtain ⟨f, fd, h1, h2, h3, h4⟩ := C
  exact de_callP h4 (hr.mono hj) hg h1 h2 h3 ha hdb he hpl
theorem de_canV {j k : Nat} (C : Can X.prog X.w X.K X.mg X.base j x ps (spP X.K n φ)) (hr : Room k X.A) (ha : DA X (e :: es) τs) (hj : j ≤ k := by decide) (hg : Gl X x := by rfl)
    (hdb : (x == ("__debug__" : Str)) = false := by decide) (he : starEach (e :: es) X.env = (false, eval e X.env) :: starEach es X.env := by rfl) (hpl : (backTo pos (starEach es X.env)).any (·.1) = false := by rfl) :
    DE X (.Call (.Name x p) (e :: es) [] pos) (dCallV n φ τs) := by
  obtain ⟨f, fd, h1, h2, h3, h4⟩ := C
  exact de_callV h4 (hr.mono hj) hg h1 h2 h3 ha hdb he hpl
theorem de_canB {j k : Nat} (C : Can X.prog X.w X.K X.mg X.base j x ps (spB X.K n φb)) (hr : Room k X.A) (ha : DA X (e :: es) τs) (hj : j ≤ k := by decide) (hg : Gl X x := by rfl)
    (hdb : (x == ("__debug__" : Str)) = false := by decide) (he : starEach (e :: es) X.env = (false, eval e X.env) :: starEach es X.env := by rfl) (hpl : (backTo pos (starEach es X.env)).any (·.1) = false := by rfl) :
    DE X (.Call (.Name x p) (e :: es) [] pos) (dCallB n φb τs) := by
  obtain ⟨f, fd, h1, h2, h3, h4⟩ := C
  exact de_callB h4 (hr.mono hj) hg h1 h2 h3 ha hdb he hpl
def tgN : List Nat → TGs
  | [] => gNil
  | i :: is => gCons (gName i) (tgN is)
theorem tgN_read {K : PySem.W.Frag} {G0 : Hp} {F : Ent} {H : Hp} {Q : L2.St → Hp → Prop} : ∀ {is : List Nat} {vs : List V} {os : List O} {σ : Sl} {Γ : Gm}, vs.length = os.length → os.length = is.length → Rel K G0 [] (vs.zip os ++ F) σ H Γ →
    (∀ σ', Rel K G0 [] F σ' H (putN Γ is os) → Q σ' H) → tgN is vs σ H Q
  | [], [], [], σ, Γ, _, _, r, q => ⟨rfl, q σ r⟩
  | i :: is, v :: vs, o :: os, σ, Γ, h1, h2, r, q => ⟨v, vs, rfl, tgN_read (is := is) (Nat.succ.inj h1) (Nat.succ.inj h2) (Rel.store (F := vs.zip os ++ F) r) q⟩
  | [], _, _ :: _, _, _, _, h, _, _ => by cases h
  | _ :: _, _, [], _, _, _, h, _, _ => by cases h
  | _, [], _ :: _, _, _, h, _, _, _ => by cases h
  | _, _ :: _, [], _, _, h, _, _, _ => by cases h
theorem ds_parN (is : List Nat) {ts : List Expr} {kt k2 : Nat} {pt pt2 : Pos} (ha : DA X es τs) (hg : PGs X ts (tgN is)) (hn : (assignEach ts X.env).length = is.length := by rfl) (hst : (assignEach ts X.env).findIdx? (·.1) = none := by rfl) (hz : is.length ≤ sizeLine := by decide) (hc : X.calm = true := by rfl)
    (hs : swapsWithSole [.Tuple ts kt pt] (.Tuple es k2 pt2) pos.line X.env = pure false := by rfl) (hw : swappedStores [.Tuple ts kt pt] (.Tuple es k2 pt2) X.env = pure none := by rfl) (h1 : (assignEach [.Tuple ts kt pt] X.env).map (·.2) = [assign (.Tuple ts kt pt) X.env] := by rfl) :
    DS X (.Assign [.Tuple ts kt pt] (.Tuple es k2 pt2) pos) (dMulti is τs) := psI (ps_asg (pe_tup ha) (pg_tup hc hg hn hst) hs hw h1) fun D σ H ⟨G0, Γ, F, E, R1, k, q⟩ =>
  ⟨G0, Γ, [], F, _, R1, k, fun os Γ1 vs H1 ⟨hl2, k1⟩ hl R2 => by
    obtain ⟨os', Γ', h1, l1, n1, R3⟩ := Rel.fixedN hl R2 k1
    refine ⟨by rw [hl, hl2]; exact hz, fun n hn => ⟨n, vs, rfl, SqT.of upd_same, by rw [hl, hl2], ?_⟩⟩
    have R4 : Rel X.K G0 [] (vs.zip os' ++ F) σ (upd H1 n (.tup vs)) Γ' := by
      have r5 := (Rel.allF R3).grow (same_upd (o := .tup vs) hn)
      rw [List.append_nil] at r5
      exact r5
    exact tgN_read l1 (by rw [← l1, hl, hl2]) R4 fun σ' r => q.nx _ _ _ h1 r⟩
end
end Dl
end
section
namespace Dl
open PySem PySem.Spec PyProof.Rows L2
theorem itemsOf_list (ds : List PyData) : itemsOf (.list ds) = some (true, ds) := rfl
theorem itemsOf_tuple (ds : List PyData) : itemsOf (.tuple ds) = some (false, ds) := rfl
theorem ixN_ok {n : Nat} {r : Int} (h0 : 0 ≤ r) (h1 : r < n) : ixN n r = some r.toNat := by
  unfold ixN
  rw [if_pos h0, if_pos h1]
theorem atI_ok {α : Type} {ds : List α} {e : α} {r : Int} (h0 : 0 ≤ r) (h1 : r < ds.length) : atI ds r = some (ds.getD r.toNat e) := by
  have hl : r.toNat < ds.length := by omega
  have h2 : ds[r.toNat]? = some (ds.getD r.toNat e) := by
    rw [List.getD_eq_getElem?_getD, List.getElem?_eq_getElem hl]
    rfl
  unfold atI
  rw [ixN_ok h0 h1]
  exact h2
section
variable {X : Cx} {pos : Pos} {e : Expr} {es : List Expr} {τ τa τb τc : TEd} {τs : TAd} {a b c : Expr} {k : Nat}
def nonOf : O → Option Bool
  | .fz .none => some true
  | .fz (.int _) => some false
  | .fz (.bool _) => some false
  | .fz (.str _) => some false
  | .fz (.list _) => some false
  | .fz (.tuple _) => some false
  | .fz (.dict _) => some false
  | .own _ => some false
  | _ => none
def dIsN (g : Bool → Bool) (τ : TEd) : TEd := fun Γ Kt => τ Γ fun o Γ1 => match nonOf o with
  | some b => Kt (.fz (.bool (g b))) Γ1
  | none => False
theorem nonOf_use {K : PySem.W.Frag} {G0 H : Hp} {T F : Ent} {σ : Sl} {Γ : Gm} {v : V} {o : O} {A : Bool → Prop} (R1 : Rel K G0 ((v, o) :: T) F σ H Γ) (h : match nonOf o with | some b => A b | none => False) : A (decide (v = .non)) := by
  cases o with
  | fz d =>
    have hd := R1.r.seen (o := .fz d) rfl
    cases hd <;> exact h
  | own ds =>
    obtain ⟨a, vs, rfl, _⟩ := R1.r.itemsO
    exact h
  | ol _ => exact h.elim
  | box _ _ => exact h.elim
  | al _ => exact h.elim
  | any => exact h.elim
  | dct _ => exact h.elim
  | ob _ => exact h.elim
theorem de_isN {j p'} (ha : DE X a τa) : DE X (.Compare a [.Is] [.Constant .none j p'] pos) (dIsN id τa) := peI (pe_cmp (pc_isN ha)) fun σ H Q ⟨G0, Γ, T, F, Kt, R1, k, q⟩ => ⟨G0, Γ, T, F, _, R1, k, fun o Γ1 v H1 k1 R2 =>
  q _ Γ1 _ H1 (nonOf_use (A := fun b => Kt (.fz (.bool (id b))) Γ1) R2 k1) (R2.drop.push fun _ => .bl _)⟩
def dIsNT (g : Bool → Bool) (τ : TEd) : TTd := fun Γ Kt => τ Γ fun o Γ1 => match nonOf o with
  | some b => Kt (g b) Γ1
  | none => False
theorem dt_isN {j p'} (ha : DE X a τa) : DT X (.Compare a [.Is] [.Constant .none j p'] pos) (dIsNT id τa) := ptI (pt_cmp (pc_isN ha)) fun σ H Q ⟨G0, Γ, T, F, Kt, R1, k, q⟩ => ⟨G0, Γ, T, F, _, R1, k, fun o Γ1 v H1 k1 R2 =>
  ⟨_, rfl, q _ Γ1 H1 (nonOf_use (A := fun b => Kt (id b) Γ1) R2 k1) R2.drop⟩⟩
def dAug (i : Nat) (f : Int → Int → Int) (τ : TEd) : TSd := fun E Γ => match get Γ i with
  | some (.fz (.int x)) => τ Γ fun o Γ1 => (match o with
    | .fz (.int y) => E.nx (put Γ1 i (some (.fz (.int (f x y)))))
    | _ => False)
  | _ => False
/-- a, b = e, e no written tuple -/
def dUnp (τ : TEd) (γ : TGd) : TSd := fun E Γ => τ Γ fun o Γ1 => esc Γ1 o fun d Γ2 => γ d Γ2 E.nx
theorem ds_unp {tg : Expr} {ws : List Nat} {γ : TGd} (he : DE X e τ) (hg : DG X tg ws γ) (hs : swapsWithSole [tg] e pos.line X.env = pure false := by rfl) (hw : swappedStores [tg] e X.env = pure none := by rfl) (h1 : (assignEach [tg] X.env).map (·.2) = [assign tg X.env] := by rfl) : DS X (.Assign [tg] e pos) (dUnp τ γ) :=
  psI (ps_asg he hg hs hw h1) fun D σ H ⟨G0, Γ, F, E, R1, k, q⟩ => ⟨G0, Γ, [], F, _, R1, k, fun o Γ1 v H1 k1 R2 => by
    obtain ⟨d, Γ2, k2, R3⟩ := R2.escape k1
    exact ⟨G0, Γ2, F, d, _, R3.toF', k2, fun Γ' σ' H' k3 _ R4 => q.nx Γ' σ' H' k3 R4⟩⟩
end
end Dl
end
section
namespace Dl
open PySem PySem.Spec PyProof.Rows L2
abbrev DK (X : Cx) (kws : List Keyword) (τ : TAd) : Prop := PK X kws (liftA X.K τ)
theorem pkI {X : Cx} {e : List Keyword} {t t' : TA} (h : PK X e t) (f : ∀ σ H Q, t' σ H Q → t σ H Q) : PK X e t' := ⟨fun pos pins s σ H Q I q => h.run pos pins s σ H Q I (f σ H Q q)⟩
/-- how a call by keywords alone binds: ix tells for each parameter which keyword -/
def KwB (K : PySem.W.Frag) (fd : FuncData) (ps ks : List Str) (ix : List Nat) : Prop := ∀ (s : Shared) (ws : List Value), K.In s.heap → ws.length = ks.length → BindsTo s fd ⟨[], ks.zip ws⟩ (ps.zip (ix.map fun i => ws.getD i .none))
def CanW (P : Program) (w : World) (K : PySem.W.Frag) (mg : Str → Option Value) (base : Heap) (k : Nat) (x : Str) (ps ks : List Str) (ix : List Nat) (sp : Sp) : Prop :=
  ∃ f fd, mg x = some (.ref f) ∧ PySem.W.keepIn K (.ref f) = true ∧ Binds K fd ps [] ∧ KwB K fd ps ks ix ∧ FnOk P w K mg base CX0 k f fd ps sp
section
variable {P : Program} {w : World} {K : PySem.W.Frag} {mg : Str → Option Value} {base : Heap} {x : Str} {ps ks : List Str} {n j : Nat} {ix : List Nat} {φ : List PyData → (O → Prop) → Prop} {φb : Nat → List PyData → (O → Nat → Prop) → Prop}
theorem CanW.can {sp : Sp} {k : Nat} (c : CanW P w K mg base k x ps ks ix sp) : Can P w K mg base k x ps sp := by
  obtain ⟨f, fd, h1, h2, h3, _, h4⟩ := c
  exact ⟨f, fd, h1, h2, h3, h4⟩
theorem Fun.kwb {qual : Str} {st : Stmt} {f : Addr} {fd : FuncData} (F : Fun K x qual st f fd)
    (h : ∀ (kV doc pm : Value) (an : Option Addr) (cdv ct : Value) (ws : List Value), ws.length = ks.length → bindArgs (PySem.W.fnOf x qual (defArgs st) (defBody st) (defScope st) .none kV doc pm an cdv ct) ⟨[], ks.zip ws⟩ = pure (ps.zip (ix.map fun i => ws.getD i .none))) : KwB K fd ps ks ix := by
  obtain ⟨oc, od, kV, doc, pm, an, cdv, ct, osl, rfl, lk, hcd⟩ := F.ex
  intro s ws _ hl
  exact BindsTo.of_looks fun M => .of_pure (h kV doc pm an cdv ct ws hl)
end
section
variable {X : Cx} {CX : CXT} {k n : Nat} {f : Addr} {fd : FuncData} {ps ks : List Str} {x : Str} {p pos kpos : Pos} {e : Expr} {es : List Expr} {kws : List Keyword} {nm : Option Str} {τ : TEd} {τs : TAd} {φ : List PyData → (O → Prop) → Prop} {ix : List Nat}
theorem dk_nil : DK X [] dNil := pkI pk_nil fun σ H Q ⟨G0, Γ, T, F, Kt, R1, k, q⟩ => q [] Γ [] H k rfl R1
theorem dk_cons (ha : DE X e τ) (hr : DK X kws τs) : DK X (⟨nm, e, kpos⟩ :: kws) (dCons τ τs) :=
  pkI (pk_cons ha hr) fun σ H Q ⟨G0, Γ, T, F, Kt, R1, k, q⟩ => ⟨G0, Γ, T, F, _, R1, k, fun o Γ1 v H1 k1 R2 => ⟨G0, Γ1, (v, o) :: T, F, _, R2, k1, fun os Γ2 vs H2 k2 hl R3 => q (o :: os) Γ2 (v :: vs) H2 k2 (congrArg (· + 1) hl) ⟨R3.fit, fun u i m => R3.al u i (by
      simp only [List.zip_cons_cons, List.cons_append, List.mem_cons, List.mem_append] at m ⊢
      rcases m with m | m | m <;> simp [m]), R3.r.perm (by
      simp only [List.zip_cons_cons, List.cons_append, List.append_assoc]
      exact List.perm_middle)⟩⟩⟩
def pick (ix : List Nat) (ds : List PyData) : List PyData := ix.map fun i => ds.getD i .none
def dKwP (n m : Nat) (ix : List Nat) (φ : List PyData → (O → Prop) → Prop) (t : TAd) : TEd := fun Γ Kt => t Γ fun os Γ1 => os.length = m ∧ escs Γ1 os fun ds Γ2 => ix.length = n ∧ φ (pick ix ds) fun o => Kt o Γ2
theorem dqAll_at {K : PySem.W.Frag} {G : Hp} {vs : List V} {ds : List PyData} (h : DqAll K G vs ds) (i : Nat) : Dq K G (vs.getD i .non) (ds.getD i .none) := by
  cases q : ds[i]? with
  | none =>
    have q2 : vs[i]? = none := by
      rw [List.getElem?_eq_none_iff] at q ⊢
      rw [dpAll_len h]
      exact q
    rw [List.getD_eq_getElem?_getD, List.getD_eq_getElem?_getD, q, q2]
    exact .non
  | some d =>
    obtain ⟨v, e1, e2⟩ := dpAll_get h q
    rw [List.getD_eq_getElem?_getD, List.getD_eq_getElem?_getD, q, e1]
    exact e2
theorem dqAll_pick {K : PySem.W.Frag} {G : Hp} {vs : List V} {ds : List PyData} (h : DqAll K G vs ds) : ∀ ix : List Nat, DqAll K G (ix.map fun i => vs.getD i .non) (pick ix ds)
  | [] => .nil
  | i :: ix => .cons (dqAll_at h i) (dqAll_pick h ix)
theorem vals_at {vs : List V} {us : List Value} (r : Vals vs us) (i : Nat) : RelV (vs.getD i .non) (us.getD i .none) := by
  induction r generalizing i with
  | nil => exact rfl
  | cons h t ih =>
    cases i with
    | zero => exact h
    | succ i => exact ih i
theorem vals_pick {vs : List V} {us : List Value} (r : Vals vs us) : ∀ ix : List Nat, Vals (ix.map fun i => vs.getD i .non) (ix.map fun i => us.getD i .none)
  | [] => .nil
  | i :: ix => .cons (vals_at r i) (vals_pick r ix)
end
section
variable {X : Cx}
theorem sumT_raw {prog : Program} {w : World} {A : Around} {E : Value → Shared → Prop} {s : Shared} {l : Addr} {its : List Value} {ns : List Int} {Q : Value → Shared → Prop} (hh : A.handled = none) (hl : s.heap.IsTuple l its.toArray) (hi : IntsAre its ns)
    (h : ∀ h' tk t', (∀ b o, s.heap.get? b = some o → h'.get? b = some o) → Q (.int ns.sum t') { s with heap := h', toks := tk }) : wpAny (model prog w) A (call (.builtin "sum") [.ref l]) Q E s := by
  obtain ⟨xs, e⟩ := hi.allInts.items
  have hn : numsOf (intItems xs).toList = ns := by rw [← e]; exact hi.numsOf
  rw [nums_intItems] at hn
  rw [e] at hl
  refine PySem.W.ktm_sumG hh hl fun h' tk t' hk => ?_
  have := h h' tk t' hk
  rw [preSum_eq, List.take_of_length_le (by simp), hn]; exact this
def rSumA (K : PySem.W.Frag) : List V → Hp → VK → Prop := fun vs H Q => ∃ (a : Addr) (ns : List Int), vs = [V.ref a] ∧ (SqL K H a (ns.map V.int) ∨ SqT K H a (ns.map V.int)) ∧ Q (.int ns.sum) H
theorem cr_sumA (hc : X.calm = true) : CallR X (.builtin "sum") (rSumA X.K) := by
  intro pins s σ H vs us Q I r h
  obtain ⟨a, ns, rfl, hs | hs, q⟩ := h
  · exact cr_sum hc pins s σ H _ us Q I r ⟨a, ns, rfl, hs, q⟩
  · obtain ⟨its, rv, hl, _⟩ := I.tuple hs
    rw [Vals.ref1 r]
    exact sumT_raw (I.ok.hd hc) hl rv.ints fun h' tk t' hk => ⟨.int _, H, I.kept hk, ⟨_, rfl⟩, q⟩
/-- the ints of a list or a tuple at hand -/
def onIntsA (Γ : Gm) (os : List O) (k : List Int → Prop) : Prop := match os with
  | [o] => (match vw Γ o with
    | some d => ∃ kd is, itemsOf d = some (kd, is.map PyData.int) ∧ k is
    | none => False)
  | _ => False
theorem onIntsA_use {K : PySem.W.Frag} {G0 H : Hp} {T F : Ent} {σ : Sl} {Γ : Gm} {vs : List V} {os : List O} {k : List Int → Prop} (hl : vs.length = os.length) (R1 : Rel K G0 (vs.zip os ++ T) F σ H Γ) (h : onIntsA Γ os k) :
    ∃ a is, vs = [.ref a] ∧ (SqL K H a (is.map V.int) ∨ SqT K H a (is.map V.int)) ∧ k is ∧ Rel K G0 T F σ H Γ := by
  unfold onIntsA at h
  match os, vs, hl with
  | [o], [v], _ =>
    have R1 : Rel K G0 ((v, o) :: T) F σ H Γ := R1
    simp only at h
    cases h1 : vw Γ o with
    | none => simp only [h1] at h
    | some d =>
      simp only [h1] at h
      obtain ⟨kd, is, hi, h⟩ := h
      have hd := R1.view h1
      cases d with
      | list ds =>
        cases hi
        cases hd with
        | lst e1 e2 =>
          have e3 := dpAll_ints_inv e2
          subst e3
          exact ⟨_, is, rfl, .inl (SqL.of e1), h, R1.drop⟩
      | tuple ds =>
        cases hi
        cases hd with
        | tup e1 e2 =>
          have e3 := dpAll_ints_inv e2
          subst e3
          exact ⟨_, is, rfl, .inr e1, h, R1.drop⟩
      | _ => cases hi
  | [], _, _ => exact h.elim
  | _ :: _ :: _, _, _ => exact h.elim
theorem fit_sumA : FitC X.K (rSumA X.K) (fun Γ os Kt => onIntsA Γ os fun is => Kt (.fz (.int is.sum)) Γ) := fun G0 Γ T F σ H vs os Kt Q hl R1 h q => by
  obtain ⟨a, is, rfl, hs, h, R2⟩ := onIntsA_use hl R1 h
  exact ⟨a, is, rfl, hs, q _ Γ _ H h (R2.push fun _ => .int _)⟩
end
end Dl
end
section
namespace Dl
open PySem PySem.Spec PyProof.Rows L2
def phD (ks : List Int) : Hp → Hp → V → List Addr → Prop := fun _ H v fp => ∃ p kvs, v = .ref p ∧ fp = [p] ∧ H p = some (.dK kvs) ∧ kvs.map (·.1) = ks.map Sum.inl
theorem stab_D (ks : List Int) : Stab (phD ks) := ⟨fun ⟨p, kvs, h1, h2, h3, h4⟩ _ k => ⟨p, kvs, h1, h2, (k p (by rw [h2]; simp)).trans h3, h4⟩, fun ⟨p, kvs, h1, h2, h3, h4⟩ a ha => by
  rw [h2] at ha
  simp at ha
  subst ha
  exact ⟨_, h3⟩⟩
abbrev dctO (ks : List Int) : O := .ob (phD ks)
def addKs (ks ns : List Int) : List Int := ns.foldl (fun ks n => if n ∈ ks then ks else ks ++ [n]) ks
section
variable {K : PySem.W.Frag} {G0 G H H' : Hp} {L L' : Ent} {v : V} {o : O} {d : PyData} {ks ns : List Int}
theorem R.dct (r : R K G0 H ((v, dctO ks) :: L)) : ∃ p kvs, v = .ref p ∧ H p = some (.dK kvs) ∧ kvs.map (·.1) = ks.map Sum.inl ∧
    ∀ (kvs' : List (Key × V)) (ks' : List Int), kvs'.map (·.1) = ks'.map Sum.inl → R K G0 (upd H p (.dK kvs')) ((v, dctO ks') :: L) := by
  obtain ⟨G, f, g, s0, s1, h1, h2, nd, hn⟩ := R.cons_iff.mp r
  unfold dn at h1
  obtain ⟨⟨p, kvs, rfl, rfl, e1, e2⟩, _⟩ := h1
  refine ⟨p, kvs, rfl, e1, e2, fun kvs' ks' k => ?_⟩
  refine R.put s0 s1 h2 nd hn ?_
  unfold dn
  exact ⟨⟨p, kvs', rfl, rfl, upd_same, k⟩, stab_D ks'⟩
end
section
variable {X : Cx} {pos : Pos} {e : Expr} {es : List Expr} {τ : TEd} {τs : TAd}
def dNewD : TEd := fun Γ Kt => Kt (dctO []) Γ
def onPairs (Γ : Gm) (os : List O) (k : List Int → Prop) : Prop := match os with
  | [o] => (match vw Γ o with
    | some (.list ds) => ∃ kds : List (Int × PyData), ds = kds.map (fun x => .tuple [.int x.1, x.2]) ∧ k (kds.map (·.1))
    | _ => False)
  | _ => False
def dUpd (i : Nat) (t : TAd) : TEd := fun Γ Kt => (∃ ks, get Γ i = some (dctO ks)) ∧ t Γ fun os Γ1 => ∃ ks, get Γ1 i = some (dctO ks) ∧ onPairs Γ1 os fun ns => ks.length + ns.length ≤ sizeLine ∧ Kt (.fz .none) (put Γ1 i (some (dctO (addKs ks ns))))
/-- sorted(d) -/
def dSortD (Γ : Gm) (os : List O) (Kt : O → Gm → Prop) : Prop := ∃ i ks, os = [.al i] ∧ get Γ i = some (dctO ks) ∧ ks.length < 64 ∧ ∀ ys : List Int, ys.Perm ks → ys.Pairwise (· ≤ ·) → Kt (.own (ys.map .int)) Γ
end
end Dl
end
section
namespace Dl
open PySem PySem.Spec PyProof.Rows L2
section
variable {K : PySem.W.Frag} {G0 G H H' : Hp} {L : Ent} {v : V} {o : O} {z : Str}
theorem dnAll_at : ∀ {os : List O} {vs : List V} {fp : List Addr} {k : Nat} {o : O}, dnAll K G H os vs fp → fp.Nodup → os[k]? = some o →
    ∃ v f, vs[k]? = some v ∧ dn K G H o v f ∧ (∀ a ∈ f, a ∈ fp) ∧ ∀ H' o', dn K G H' o' v f → (∀ a ∈ fp, a ∉ f → H' a = H a) → dnAll K G H' (os.set k o') vs fp
  | [], _, _, _, _, _, _, e => by simp at e
  | o :: os, vs, fp, 0, o2, h, nd, e => by
    cases (Option.some.inj e)
    unfold dnAll at h
    obtain ⟨v, vr, f, g, rfl, rfl, h1, h2⟩ := h
    refine ⟨v, f, rfl, h1, fun a ha => List.mem_append_left _ ha, fun H' o' k1 k2 => ?_⟩
    show dnAll K G H' (o' :: os) (v :: vr) (f ++ g)
    unfold dnAll
    refine ⟨v, vr, f, g, rfl, rfl, k1, dnAll_keep (Same.refl G) _ _ g h2 fun a ha => k2 a (List.mem_append_right _ ha) fun z => ?_⟩
    exact (List.nodup_append.mp nd).2.2 a z a ha rfl
  | o :: os, vs, fp, k + 1, o2, h, nd, e => by
    unfold dnAll at h
    obtain ⟨v, vr, f, g, rfl, rfl, h1, h2⟩ := h
    have nd2 := List.nodup_append.mp nd
    obtain ⟨u, f2, e1, e2, e3, e4⟩ := dnAll_at (k := k) h2 nd2.2.1 (by simpa using e)
    refine ⟨u, f2, by simpa using e1, e2, fun a ha => List.mem_append_right _ (e3 a ha), fun H' o' k1 k2 => ?_⟩
    show dnAll K G H' (o :: os.set k o') (v :: vr) (f ++ g)
    unfold dnAll
    refine ⟨v, vr, f, g, rfl, rfl, dn_keep (Same.refl G) o v f h1 fun a ha => k2 a (List.mem_append_left _ ha) fun z => ?_, e4 H' o' k1 fun a ha hn => k2 a (List.mem_append_right _ ha) hn⟩
    exact nd2.2.2 a ha a (e3 a z) rfl
theorem R.olAt {os : List O} {k : Nat} {ds : List PyData} (r : R K G0 H ((v, .ol os) :: L)) (e : os[k]? = some (.own ds)) : ∃ p vs q ws, v = .ref p ∧ H p = some (.lst vs) ∧ vs[k]? = some (.ref q) ∧ H q = some (.lst ws) ∧ ws.length = ds.length ∧
    R K G0 (upd H q (.lst (ws ++ [.str z]))) ((v, .ol (os.set k (.own (ds ++ [.str z])))) :: L) := by
  obtain ⟨G, f, g, s0, s1, h1, h2, nd, hn⟩ := R.cons_iff.mp r
  unfold dn at h1
  obtain ⟨p, vs, fq, rfl, rfl, h3, h4⟩ := h1
  obtain ⟨nf, ng, dj⟩ := List.nodup_append.mp nd
  have nf2 := List.nodup_cons.mp nf
  obtain ⟨u, f2, e1, e2, e3, e4⟩ := dnAll_at h4 nf2.2 e
  unfold dn at e2
  obtain ⟨q, ws, rfl, rfl, e5, e6⟩ := e2
  have hq : q ∈ fq := e3 q (by simp)
  have gq : G q = none := hn q (by simp [hq])
  have hqp : p ≠ q := fun z => nf2.1 (z ▸ hq)
  refine ⟨p, vs, q, ws, rfl, h3, e1, e5, dpAll_len e6, R.cons_iff.mpr ⟨G, p :: fq, g, s0, fun b x k => ?_, ?_, dnAll_keep (Same.refl G) _ _ g h2 fun a ha => upd_ne fun z => ?_, nd, hn⟩⟩
  · rw [upd_ne (ne_of_none k gq)]
    exact s1 b x k
  · unfold dn
    refine ⟨p, vs, fq, rfl, rfl, (upd_ne hqp).trans h3, e4 _ _ ?_ fun a ha hna => upd_ne fun z => hna (by rw [z]; simp)⟩
    unfold dn
    exact ⟨q, _, rfl, rfl, upd_same, dpAll_app e6 (.cons (.str z) .nil)⟩
  · exact dj q (by simp [hq]) a ha z.symm
end
section
variable {X : Cx} {pos : Pos} {e : Expr} {es : List Expr} {τ : TEd} {τs : TAd}
def onOlAt (o : Option O) (k : Int) (h : List O → List PyData → Prop) : Prop := match o with
  | some (.ol os) => 0 ≤ k ∧ (match os[k.toNat]? with
    | some (.own ds) => h os ds
    | _ => False)
  | _ => False
theorem onOlAt_use {o : Option O} {k : Int} {h : List O → List PyData → Prop} (q : onOlAt o k h) : ∃ os ds, o = some (.ol os) ∧ 0 ≤ k ∧ os[k.toNat]? = some (.own ds) ∧ h os ds := by
  unfold onOlAt at q
  split at q
  · rename_i os
    obtain ⟨h0, q⟩ := q
    split at q
    · rename_i ds e
      exact ⟨os, ds, rfl, h0, e, q⟩
    · exact q.elim
  · exact q.elim
def dAppT (i : Nat) (k : Int) (z : Str) : TSd := fun E Γ => onOlAt (get Γ i) k fun os ds => ds.length < sizeLine ∧ E.nx (put Γ i (some (.ol (os.set k.toNat (.own (ds ++ [.str z]))))))
/-- x[k].append("..") -/
theorem ds_appAt (i : Nat) {x : Str} {k : Int} {z : Str} {kk kz : Nat} {p0 p1 p2 p3 ap cp sp : Pos} (hv : PE X (.Name x p0) (tVar i)) (h1 : attributeBase (.Subscript (.Name x p0) (.Constant (.int k) kk p1) p2) "append" X.env (eval (.Subscript (.Name x p0) (.Constant (.int k) kk p1) p2) X.env) = eval (.Subscript (.Name x p0) (.Constant (.int k) kk p1) p2) X.env := by rfl) (h3 : (ap.endLine == cp.line) = true := by rfl)
    (h2 : ((backTo cp (starEach [.Constant (.str z) kz p3] X.env)).all (fun z => !z.1) && (backToKw cp (keywordEach [] X.env)).all (fun z => z.1.isSome) && decide (([Expr.Constant (.str z) kz p3].length + ([] : List Keyword).length + if ([] : List Keyword).isEmpty = true then 0 else 1) < 30)) = true := by rfl)
    (h4 : starEach [.Constant (.str z) kz p3] X.env = (false, eval (.Constant (.str z) kz p3) X.env) :: starEach [] X.env := by rfl) :
    DS X (.Expr (.Call (.Attribute (.Subscript (.Name x p0) (.Constant (.int k) kk p1) p2) "append" ap) [.Constant (.str z) kz p3] [] cp) sp) (dAppT i k z) :=
  psI (ps_expr (pe_bm PySem.F.plainAttrs_list PySem.F.slot_list_append PySem.F.type_list_append mt_append (pe_ix ix_list hv pe_int (fun _ _ => rfl)) (pa_cons pe_str pa_nil h4) h1 h2 h3 h4)) fun D σ H ⟨G0, Γ, F, E, R1, kE, q⟩ => by
    obtain ⟨os, ds, g, h0, eo, hl, kE⟩ := onOlAt_use kE
    obtain ⟨v, e1, e2, e3⟩ := R1.out g
    obtain ⟨p, vs, qa, ws, rfl, f1, f2, f3, f4, f5⟩ := e2.olAt (z := z) eo
    refine ⟨_, e1, p, vs, k, .ref qa, rfl, rfl, SqL.of f1, ?_, .inl ⟨rfl, ws, SqL.of f3⟩, qa, ws, .str z, rfl, rfl, f3, by rw [f4]; exact hl, ?_⟩
    · have hk : k.toNat < vs.length := (List.getElem?_eq_some_iff.mp f2).1
      rw [atI_ok (e := .non) h0 (by omega), List.getD_eq_getElem?_getD, f2]
      rfl
    · exact q.nx _ _ _ kE (Rel.back (σ := σ) (v := .ref p) e3 R1.al (get_lt g) e1 f5)
def phS (K : PySem.W.Frag) (ns : List Int) : Hp → Hp → V → List Addr → Prop := fun G _ v fp => ∃ a, v = .ref a ∧ SqL K G a (ns.map V.int) ∧ fp = []
theorem sqL_same {K : PySem.W.Frag} {H H' : Hp} {a : Addr} {xs : List V} (e : Same H H') (h : SqL K H a xs) : SqL K H' a xs := e.seq h
theorem stab_S (K : PySem.W.Frag) (ns : List Int) : Stab (phS K ns) := ⟨fun ⟨a, h1, h2, h3⟩ e _ => ⟨a, h1, sqL_same e h2, h3⟩, fun ⟨a, h1, h2, h3⟩ b hb => by rw [h3] at hb; simp at hb⟩
abbrev scO (K : PySem.W.Frag) (ns : List Int) : O := .ob (phS K ns)
variable {K : PySem.W.Frag} {G0 G H H' : Hp} {L : Ent} {v : V} {o : O} {ns : List Int}
theorem R.scr (r : R K G0 H ((v, scO K ns) :: L)) : ∃ a, v = .ref a ∧ SqL K H a (ns.map V.int) ∧ R K G0 H ((v, scO K ns) :: (v, scO K ns) :: L) := by
  obtain ⟨G, f, g, s0, s1, h1, h2, nd, hn⟩ := R.cons_iff.mp r
  unfold dn at h1
  obtain ⟨⟨a, rfl, e1, rfl⟩, st⟩ := h1
  refine ⟨a, rfl, sqL_same s1 e1, R.cons_iff.mpr ⟨G, [], g, s0, s1, ?_, ?_, nd, hn⟩⟩
  · unfold dn
    exact ⟨⟨a, rfl, e1, rfl⟩, st⟩
  · simp only [tO, tV, List.cons_append, List.map_cons]
    unfold dnAll
    refine ⟨_, _, [], g, rfl, rfl, ?_, h2⟩
    unfold dn
    exact ⟨⟨a, rfl, e1, rfl⟩, st⟩
/-- a def whose first argument is the script -/
def spS (K : PySem.W.Frag) (n : Nat) (φ : List Int → List PyData → (O → Prop) → Prop) : Sp := fun vs H Q _ => ∃ G0 v ns ds vr F Kt, vs = v :: vr ∧ vr.length = ds.length ∧ ds.length = n ∧ R K G0 H ((v, scO K ns) :: (fzs vr ds ++ F)) ∧ φ ns ds Kt ∧
  ∀ o v H', Kt o → (∀ i, o ≠ .al i) → R K G0 H' ((v, o) :: F) → Q v H'
theorem fnS {P : Program} {w : World} {mg : Str → Option Value} {base : Heap} {x qual : Str} {st : Stmt} {f : Addr} {fd : FuncData} {N ps : List Str} {k n : Nat} {φ : List Int → List PyData → (O → Prop) → Prop} (F : Fun K x qual st f fd) (S : FnScope N ps (defScope st)) (hn : ps.length = n + 1)
    (hbody : ∀ (cdv : Value) (A : Around) (outer : List Env) (s : Shared) (H : Hp) (E : XK), Room k (A.deeper (envOfC qual (defScope st) s.heap.objs.size f cdv)) →
      ∃ τ, DSs (cxOf CX0 P w K mg base N qual (defScope st) f cdv A outer s H E).nox (defBody st) τ ∧ ∀ ns ds Kt, ds.length = n → φ ns ds Kt →
        τ { nx := fun _ => Kt (.fz .none), rt := fun o _ => Kt o } (startG N (scO K ns :: ds.map .fz))) :
    FnOk P w K mg base CX0 (k + 1) f fd ps (spS K n φ) := by
  refine F.ok S (fun vs H Q E h => ?_) (fun cdv A outer s H vs Q E hr h => ?_)
  · obtain ⟨G0, p, m, ds, vr, F, Kt, rfl, h1, h2, _⟩ := h
    rw [List.length_cons, h1, h2, hn]
  · obtain ⟨τ, hτ, hq⟩ := hbody cdv A outer s H E hr
    obtain ⟨G0, v, ns, ds, vr, F, Kt, rfl, h1, h2, r, hφ, q⟩ := h
    refine ⟨_, hτ, ?_⟩
    obtain ⟨e1, e2⟩ := ents_start (n := N.length - (vr.length + 1)) (vs := v :: vr) (os := scO K ns :: ds.map .fz) (by rw [List.length_cons, List.length_cons, List.length_map, h1])
    have e3 : startG N (scO K ns :: ds.map .fz) = (scO K ns :: ds.map O.fz).map some ++ List.replicate (N.length - (vr.length + 1)) none := by
      unfold startG
      rw [List.length_cons, List.length_map, h1]
    refine ⟨G0, startG N (scO K ns :: ds.map .fz), F, _, ⟨?_, fun _ _ m => by simp at m, ?_⟩, hq ns ds Kt h2 hφ, ⟨fun Γ σ H' k1 r1 => ?_, fun o Γ v σ H' n1 k1 r1 => ?_, fun _ _ _ z => z.elim, fun _ _ _ z => z.elim⟩⟩
    · rw [e3]
      exact e2
    · rw [e3]
      show R K G0 H (ents ((v :: vr).map some ++ List.replicate (N.length - (vr.length + 1)) none) _ ++ F)
      rw [e1]
      show R K G0 H ((v, scO K ns) :: (vr.zip (ds.map .fz) ++ F))
      rw [← fzs_zip]
      exact r
    · have r2 : R K G0 H' (ents σ Γ ++ F) := r1.r
      exact q (.fz .none) .non H' k1 (fun _ z => nomatch z) (r2.dropL.add fun _ => .non)
    · have r2 : R K G0 H' ((v, o) :: (ents σ Γ ++ F)) := r1.r
      refine q o v H' k1 n1 (R.dropL (M := ents σ Γ) (r2.perm ?_))
      exact List.perm_middle.symm
def onScr (n : Nat) (φ : List Int → List PyData → (O → Prop) → Prop) (K : PySem.W.Frag) (Kt : O → Gm → Prop) (Γ1 : Gm) (os : List O) : Prop := ∃ i os1 ns, os = .al i :: os1 ∧ get Γ1 i = some (scO K ns) ∧ escs Γ1 os1 fun ds Γ2 => ds.length = n ∧ φ ns ds fun o => Kt o Γ2
def dCallS (n : Nat) (φ : List Int → List PyData → (O → Prop) → Prop) (K : PySem.W.Frag) (t : TAd) : TEd := fun Γ Kt => t Γ fun os Γ1 => onScr n φ K Kt Γ1 os
variable {n : Nat} {φ : List Int → List PyData → (O → Prop) → Prop}
theorem useS {Γ : Gm} {T F : Ent} {σ : Sl} {vs : List V} {os : List O} {Kt : O → Gm → Prop} {Q : VK} {E : XK} (hl : vs.length = os.length) (R2 : Rel X.K G0 (vs.zip os ++ T) F σ H Γ) (k1 : onScr n φ X.K Kt Γ os)
    (q : ∀ o Γ' v H', Kt o Γ' → Rel X.K G0 ((v, o) :: T) F σ H' Γ' → Q v H') : spS X.K n φ vs H Q E := by
  obtain ⟨i, os1, ns, rfl, g, k1⟩ := k1
  obtain ⟨v, vr, rfl⟩ : ∃ v r, vs = v :: r := by
    cases vs with
    | nil => cases hl
    | cons v r => exact ⟨v, r, rfl⟩
  have R2 : Rel X.K G0 ((v, .al i) :: (vr.zip os1 ++ T)) F σ H Γ := R2
  have ev : σ[i]? = some (some v) := R2.al v i List.mem_cons_self
  obtain ⟨w', h1, h2, h3⟩ := R2.drop.out g
  rw [h1] at ev
  cases ev
  obtain ⟨a, rfl, _, h4⟩ := h2.scr
  have R3 : Rel X.K G0 (vr.zip os1 ++ T) ((.ref a, scO X.K ns) :: F) σ H Γ := by
    have z := Rel.back (T := (.ref a, scO X.K ns) :: (vr.zip os1 ++ T)) (o := scO X.K ns) h3 (AlOk.cons R2.al.tail (by intro _ z; cases z)) (get_lt g) h1 (h4.perm (.refl _))
    have e : put Γ i (some (scO X.K ns)) = Γ := de_of_var.put_get g
    rw [e] at z
    refine ⟨z.fit, z.al.tail, z.r.perm ?_⟩
    have q : ((vr.zip os1 ++ T) ++ (ents σ Γ ++ (V.ref a, scO X.K ns) :: F)).Perm ((V.ref a, scO X.K ns) :: ((vr.zip os1 ++ T) ++ (ents σ Γ ++ F))) := by
      rw [← List.append_assoc, ← List.append_assoc]
      exact List.perm_middle
    exact q.symm
  obtain ⟨ds, Γ2, ⟨e1, e3⟩, hl2, R4⟩ := Rel.escapes (Nat.succ.inj hl) R3 k1
  refine ⟨G0, .ref a, ns, ds, vr, T ++ (ents σ Γ2 ++ F), _, rfl, hl2, e1, ?_, e3, fun o u H' k2 n1 r => q o _ u H' k2 ⟨R4.fit, AlOk.cons (fun w j mm => R2.al w j (List.mem_cons_of_mem _ (List.mem_append_right _ mm))) n1, r⟩⟩
  refine R4.r.perm ?_
  rw [List.append_assoc]
  have q : (fzs vr ds ++ (T ++ (ents σ Γ2 ++ (V.ref a, scO X.K ns) :: F))).Perm ((V.ref a, scO X.K ns) :: (fzs vr ds ++ (T ++ (ents σ Γ2 ++ F)))) := by
    rw [← List.append_assoc, ← List.append_assoc, ← List.append_assoc, ← List.append_assoc]
    exact List.perm_middle
  exact q
variable {ps : List Str} {x : Str} {p : Pos}
theorem de_canS {j k : Nat} (C : Can X.prog X.w X.K X.mg X.base j x ps (spS X.K n φ)) (hr : Room k X.A) (ha : DA X (e :: es) τs) (hj : j ≤ k := by decide) (hg : Gl X x := by rfl)
    (hdb : (x == ("__debug__" : Str)) = false := by decide) (he : starEach (e :: es) X.env = (false, eval e X.env) :: starEach es X.env := by rfl) (hpl : (backTo pos (starEach es X.env)).any (·.1) = false := by rfl) :
    DE X (.Call (.Name x p) (e :: es) [] pos) (dCallS n φ X.K τs) := by
  obtain ⟨f, fd, h1, h2, h3, h4⟩ := C
  exact peI (pe_call h4 (hr.mono hj) hg h1 h2 h3 .nil pass0 ha hdb he hpl) fun σ H Q ⟨G0, Γ, T, F, Kt, R1, k, q⟩ => ⟨G0, Γ, T, F, _, R1, k, fun os Γ1 vs H1 k1 hl R2 => by
    show spS X.K n φ (vs ++ []) H1 Q E0
    rw [List.append_nil]
    exact useS hl R2 k1 q⟩
theorem At.canS {P : Program} {w : World} {mg : Str → Option Value} {base : Heap} {st : Stmt} {N : List Str} {k : Nat} (A : At K mg x st ps) (S : FnScope N ps (defScope st)) (hn : ps.length = n + 1)
    (hbody : ∀ (f : Addr) (cdv : Value) (A : Around) (outer : List Env) (s : Shared) (H : Hp) (E : XK), Room k (A.deeper (envOfC x (defScope st) s.heap.objs.size f cdv)) →
      ∃ τ, DSs (cxOf CX0 P w K mg base N x (defScope st) f cdv A outer s H E).nox (defBody st) τ ∧ ∀ ns ds Kt, ds.length = n → φ ns ds Kt →
        τ { nx := fun _ => Kt (.fz .none), rt := fun o _ => Kt o } (startG N (scO K ns :: ds.map .fz))) : Can P w K mg base (k + 1) x ps (spS K n φ) := by
  obtain ⟨f, fd, h1, h2, h3⟩ := A
  exact ⟨f, fd, h2, h1.kp, h3, fnS h1 S hn fun cdv A outer s H E hr => hbody f cdv A outer s H E hr⟩
/-- len of the script -/
def dLenS (K : PySem.W.Frag) (Γ : Gm) (os : List O) (Kt : O → Gm → Prop) : Prop := ∃ i ns, os = [.al i] ∧ get Γ i = some (scO K ns) ∧ Kt (.fz (.int ns.length)) Γ
theorem fit_lenS : FitC X.K (fun xs H Q => ∃ p ys, xs = [.ref p] ∧ (SqL X.K H p ys ∨ SqT X.K H p ys) ∧ Q (.int ys.length) H) (dLenS X.K) := fun G0 Γ T F σ H vs os Kt Q hl R1 h q => by
  obtain ⟨i, ns, rfl, g, h⟩ := h
  match vs, hl with
  | [v], _ =>
    have R1 : Rel X.K G0 ((v, .al i) :: T) F σ H Γ := R1
    have ev : σ[i]? = some (some v) := R1.al v i List.mem_cons_self
    obtain ⟨v', f1, f2, f3⟩ := R1.drop.out g
    rw [ev] at f1
    cases f1
    obtain ⟨a, rfl, e1, _⟩ := f2.scr
    refine ⟨a, _, rfl, .inl e1, q _ Γ _ _ ?_ (R1.drop.push fun _ => .int _)⟩
    rw [List.length_map]
    exact h
/-- script[k] -/
def dIxS (i : Nat) (K : PySem.W.Frag) (τ : TEd) : TEd := fun Γ Kt => (∃ ns, get Γ i = some (scO K ns)) ∧ τ Γ fun o Γ1 => ∃ ns k, get Γ1 i = some (scO K ns) ∧ o = .fz (.int k) ∧ 0 ≤ k ∧ k < ns.length ∧ Kt (.fz (.int (ns.getD k.toNat 0))) Γ1
theorem de_ixS (i : Nat) {y : Str} {p0 : Pos} {b : Expr} {τb : TEd} (hv : PE X (.Name y p0) (tVar i)) (hb : DE X b τb) (hs : PlainIx b := by exact fun _ _ => rfl) : DE X (.Subscript (.Name y p0) b pos) (dIxS i X.K τb) :=
  peI (pe_ix ix_list hv hb hs) fun σ H Q ⟨G0, Γ, T, F, Kt, R1, ⟨⟨ns0, g0⟩, k⟩, q⟩ => by
    obtain ⟨v, e1, e2, _⟩ := R1.out g0
    refine ⟨v, e1, G0, Γ, T, F, _, R1, k, fun o Γ1 u H1 ⟨ns, k, g1, eo, h0, h1, h2⟩ R2 => ?_⟩
    subst eo
    obtain rfl := R.int R2.r
    obtain ⟨v', f1, f2, _⟩ := R2.drop.out g1
    rw [e1] at f1
    cases f1
    obtain ⟨a, rfl, f3, _⟩ := f2.scr
    refine ⟨a, _, k, .int (ns.getD k.toNat 0), rfl, rfl, f3, ?_, q _ Γ1 _ H1 h2 (R2.drop.push fun _ => .int _)⟩
    have hl : k.toNat < ns.length := by omega
    rw [atI_ok (e := .non) h0 (by rw [List.length_map]; exact h1), List.getD_eq_getElem?_getD, List.getElem?_map, List.getD_eq_getElem?_getD, List.getElem?_eq_getElem hl]
    rfl
theorem can_void {P : Program} {w : World} {mg : Str → Option Value} {base : Heap} {st : Stmt} (A : At K mg x st ps) : Can P w K mg base 0 x ps (spP K n fun _ _ => False) := by
  obtain ⟨f, fd, h1, h2, h3⟩ := A
  refine ⟨f, fd, h2, h1.kp, h3, ⟨fun vs H Q E h => ?_, fun _ _ _ _ _ _ _ _ _ _ _ _ _ h => ?_⟩⟩
  · obtain ⟨_, _, _, _, _, _, _, z, _⟩ := h
    exact z.elim
  · obtain ⟨_, _, _, _, _, _, _, z, _⟩ := h
    exact z.elim
end
end Dl
end
section
namespace Dl
open PySem PySem.Spec PyProof.Rows L2
section
variable {X : Cx} {pos : Pos}
def lcTurn (γ : TGd) (tt : TTd) (te : TEd) (vs : List Nat) (n : Nat) (it : Nat → PyData) (Jv : Nat → List PyData → Gm → Prop) : Prop := ∀ j acc Γ2, j < n → Jv j acc Γ2 → γ (it j) Γ2 fun Γ3 => tt Γ3 fun b Γ4 => (b = true → te Γ4 fun o Γ5 => esc Γ5 o fun d Γ6 => acc.length < sizeLine ∧ Jv (j + 1) (acc ++ [d]) (wipeG Γ6 vs)) ∧ (b = false → Jv (j + 1) acc (wipeG Γ4 vs))
/-- the loop of the last source -/
theorem lc_in {K : PySem.W.Frag} {G0 : Hp} {S F : Ent} {σ : Sl} {vs ws : List Nat} {n : Nat} {it : Nat → PyData} {J : It} {Nx : Hp → Prop} {γ : TGd} {tt : TTd} {te : TEd} {D : Addr} {Jv : Nat → List PyData → Gm → Prop} {acc0 : List PyData} {Γ0 : Gm} {H : Hp}
    (hw : ∀ i ∈ ws, i ∈ vs) (fd : Feeds K J n it S) (i0 : Jv 0 acc0 Γ0) (is : lcTurn γ tt te vs n it Jv) (r1 : Rel K G0 [] ((.ref D, .own acc0) :: (S ++ F)) (wipe σ vs) H Γ0)
    (ie : ∀ acc Γ H, Jv n acc Γ → Rel K G0 [] ((.ref D, .own acc) :: (S ++ F)) (wipe σ vs) H Γ → Nx H) :
    ∃ W1 : Nat → Nat → Hp → Prop, (∃ m, W1 0 m H) ∧ ∀ j k H, W1 j k H →
      (J.stop j H ∧ Nx H) ∨ (J.go j H ∧ ∃ Nx1 : Hp → Prop, (∀ H', Nx1 H' → ∃ k', k' < k ∧ W1 (j + 1) k' H') ∧ ∀ x H', J.yld j H x H' → (liftG K ws γ) x (wipe σ vs) H' fun σ3 H5 => wipe σ3 vs = wipe σ vs ∧ (liftT K tt) σ3 H5 fun b H6 =>
        if b = true then (liftE K te) σ3 H6 fun y H7 => ∃ acc, H7 D = some (.lst acc) ∧ acc.length < sizeLine ∧ Nx1 (upd H7 D (.lst (acc ++ [y]))) else Nx1 H6) := by
  have pq : ∀ M N L : Ent, (M ++ (N ++ L)).Perm (N ++ (M ++ L)) := fun M N L => by
    rw [← List.append_assoc, ← List.append_assoc]
    exact List.perm_append_comm.append_right L
  have rS : ∀ {M : Ent} {σ H Γ}, Rel K G0 [] (M ++ (S ++ F)) σ H Γ → R K G0 H (S ++ (M ++ (ents σ Γ ++ F))) := fun {M σ H Γ} r => r.r.perm (by
    show (ents σ Γ ++ (M ++ (S ++ F))).Perm (S ++ (M ++ (ents σ Γ ++ F)))
    refine (pq (ents σ Γ) M _).trans ?_
    refine (List.Perm.append_left M (pq (ents σ Γ) S F)).trans ?_
    exact pq M S _)
  refine ⟨fun i m H => m = n - i ∧ i ≤ n ∧ ∃ acc Γ, Jv i acc Γ ∧ Rel K G0 [] ((.ref D, .own acc) :: (S ++ F)) (wipe σ vs) H Γ, ⟨n, rfl, Nat.zero_le _, acc0, _, i0, r1⟩, ?_⟩
  rintro i m H2 ⟨rfl, hle, acc, Γ2, iv, R3⟩
  by_cases hlt : i < n
  · obtain ⟨g1, g2⟩ := fd.step (rS (M := [(.ref D, .own acc)]) R3) hlt
    refine .inr ⟨g1, fun H' => ∃ acc Γ, Jv (i + 1) acc Γ ∧ Rel K G0 [] ((.ref D, .own acc) :: (S ++ F)) (wipe σ vs) H' Γ, fun H' h => ⟨n - (i + 1), by omega, rfl, hlt, h⟩, fun x H' hy => ?_⟩
    have r4 := g2 x H' hy
    have R4 : Rel K G0 [] ((x, .fz (it i)) :: ((.ref D, .own acc) :: (S ++ F))) (wipe σ vs) H' Γ2 := ⟨R3.fit, R3.al, r4.perm (by
      show ((x, O.fz (it i)) :: (S ++ ([(V.ref D, O.own acc)] ++ (ents (wipe σ vs) Γ2 ++ F)))).Perm (ents (wipe σ vs) Γ2 ++ ([(x, O.fz (it i))] ++ ([(V.ref D, O.own acc)] ++ (S ++ F))))
      refine List.Perm.trans ?_ (pq [(x, O.fz (it i))] (ents (wipe σ vs) Γ2) _)
      refine List.Perm.cons _ ?_
      refine (pq S [(V.ref D, O.own acc)] _).trans ?_
      refine List.Perm.trans ?_ (pq [(V.ref D, O.own acc)] (ents (wipe σ vs) Γ2) _)
      refine List.Perm.cons _ ?_
      exact pq S _ F)⟩
    refine ⟨G0, Γ2, (.ref D, .own acc) :: (S ++ F), it i, _, R4, is i acc Γ2 hlt iv, fun Γ3 σ3 H3 k3 ag R5 => ⟨?_, G0, Γ3, [], _, _, R5, k3, fun b Γ4 H4 k4 R6 => ?_⟩⟩
    · rw [agree_wipe ag hw]
      exact lc_read.wipe_wipe σ vs
    · have hw3 : wipe σ3 vs = wipe σ vs := by rw [agree_wipe ag hw]; exact lc_read.wipe_wipe σ vs
      cases b with
      | false =>
        refine iteF ?_
        refine ⟨acc, _, k4.2 rfl, ?_⟩
        rw [← hw3]
        exact Rel.wiped R6 vs
      | true =>
        refine iteT ?_
        refine ⟨G0, Γ4, [], _, _, R6, k4.1 rfl, fun o Γ5 y H5 k5 R7 => ?_⟩
        obtain ⟨d, Γ6, ⟨z1, k6⟩, R8⟩ := R7.escape k5
        have r9 : R K G0 H5 ((.ref D, .own acc) :: (fzs [y] [d] ++ (ents σ3 Γ6 ++ (S ++ F)))) := R8.r.perm (by
          show ((y, O.fz d) :: (ents σ3 Γ6 ++ ((V.ref D, O.own acc) :: (S ++ F)))).Perm ((V.ref D, O.own acc) :: (y, O.fz d) :: (ents σ3 Γ6 ++ (S ++ F)))
          exact (List.Perm.cons _ List.perm_middle).trans (.swap _ _ _))
        obtain ⟨p, us, e0, e1, e2, e3⟩ := r9.write rfl
        cases e0
        refine ⟨us, e1, by rw [e2]; exact z1, acc ++ [d], _, k6, ?_⟩
        have r10 := e3 (us ++ [y]) [] (acc ++ [d]) [] (fun G a b => ⟨dpAll_app a b, .nil⟩) rfl
        have R9 : Rel K G0 [] ((.ref D, .own (acc ++ [d])) :: (S ++ F)) σ3 (upd H5 D (.lst (us ++ [y]))) Γ6 := ⟨R8.fit, fun _ _ m => by simp at m, (R.tail (v := y) (o := .fz d) (L := (.ref D, .own (acc ++ [d])) :: (ents σ3 Γ6 ++ (S ++ F))) (r10.perm (.swap _ _ _))).perm (by
          exact List.perm_middle.symm)⟩
        rw [← hw3]
        exact R9.wiped vs
  · obtain rfl : i = n := by omega
    exact .inl ⟨fd.stop (rS (M := [(.ref D, .own acc)]) R3), ie acc Γ2 H2 iv R3⟩
def dLc2 (τi : TId) (γ : TGd) (tt : TTd) (τi1 : TId) (γ1 : TGd) (tt1 : TTd) (te : TEd) (vs vs1 : List Nat) : TEd := fun Γ Kt => τi Γ fun n it Γ1 => ∃ Iv : Nat → List PyData → Gm → Prop, Iv 0 [] (wipeG Γ1 vs) ∧
  (∀ i acc Γ2, i < n → Iv i acc Γ2 → γ (it i) Γ2 fun Γ3 => tt Γ3 fun b Γ4 => (b = true → τi1 Γ4 fun n1 it1 Γ5 => ∃ Jv : Nat → List PyData → Gm → Prop, Jv 0 acc (wipeG Γ5 vs1) ∧ lcTurn γ1 tt1 te vs1 n1 it1 Jv ∧ ∀ acc' Γ6, Jv n1 acc' Γ6 → Iv (i + 1) acc' (wipeG Γ6 vs)) ∧ (b = false → Iv (i + 1) acc (wipeG Γ4 vs))) ∧
  ∀ acc Γ2, Iv n acc Γ2 → Kt (.own acc) Γ2
variable {tg iter tg1 iter1 : Expr} {elt : Expr} {ifs ifs1 : List Expr} {scope : Scope} {own : List (Str × Nat)} {ws ws1 : List Nat} {τi τi1 : TId} {γ γ1 : TGd} {tt tt1 : TTd} {te : TEd}
theorem lc2_read {K : PySem.W.Frag} {vs vs1 : List Nat} {σ : Sl} {H : Hp} {Q : VK} (hw : ∀ i ∈ ws, i ∈ vs) (hw1 : ∀ i ∈ ws1, i ∈ vs1) (h : liftE K (dLc2 τi γ tt τi1 γ1 tt1 te vs vs1) σ H Q) : tLc2 (liftI K τi) (liftG K ws γ) (liftT K tt) (liftI K τi1) (liftG K ws1 γ1) (liftT K tt1) (liftE K te) vs vs1 σ H Q := by
  obtain ⟨G0, Γ, T, F, Kt, R1, k, q⟩ := h
  refine ⟨G0, Γ, T, F, _, R1, k, fun n it Γ1 J S H1 ⟨Iv, i0, is, ie⟩ fd R2 D hD => ?_⟩
  have r0 : Rel K G0 [] (T ++ (S ++ F)) (wipe σ vs) H1 (wipeG Γ1 vs) := (Rel.allF R2).wiped vs
  have r1 : Rel K G0 [] ((.ref D, .own []) :: (T ++ (S ++ F))) (wipe σ vs) (upd H1 D (.lst [])) (wipeG Γ1 vs) := (Rel.newL (M := []) (ds := []) (vs := []) (F := T ++ (S ++ F)) r0 rfl hD).toF'
  have pq : ∀ M N L : Ent, (M ++ (N ++ L)).Perm (N ++ (M ++ L)) := fun M N L => by
    rw [← List.append_assoc, ← List.append_assoc]
    exact List.perm_append_comm.append_right L
  have rS : ∀ {M : Ent} {σ H Γ}, Rel K G0 [] (M ++ (T ++ (S ++ F))) σ H Γ → R K G0 H (S ++ (M ++ (T ++ (ents σ Γ ++ F)))) := fun {M σ H Γ} r => r.r.perm (by
    show (ents σ Γ ++ (M ++ (T ++ (S ++ F)))).Perm (S ++ (M ++ (T ++ (ents σ Γ ++ F))))
    refine (pq (ents σ Γ) M _).trans ?_
    refine (List.Perm.append_left M ((pq (ents σ Γ) T _).trans (List.Perm.append_left T (pq (ents σ Γ) S F)))).trans ?_
    refine (List.Perm.append_left M (pq T S _)).trans (pq M S _))
  refine ⟨fun i m H => m = n - i ∧ i ≤ n ∧ ∃ acc Γ, Iv i acc Γ ∧ Rel K G0 [] ((.ref D, .own acc) :: (T ++ (S ++ F))) (wipe σ vs) H Γ, ⟨n, rfl, Nat.zero_le _, [], _, i0, r1⟩, ?_⟩
  rintro i m H2 ⟨rfl, hle, acc, Γ2, iv, R3⟩
  by_cases hlt : i < n
  · obtain ⟨g1, g2⟩ := fd.step (rS (M := [(.ref D, .own acc)]) R3) hlt
    refine .inr ⟨g1, fun H' => ∃ acc Γ, Iv (i + 1) acc Γ ∧ Rel K G0 [] ((.ref D, .own acc) :: (T ++ (S ++ F))) (wipe σ vs) H' Γ, fun H' h => ⟨n - (i + 1), by omega, rfl, hlt, h⟩, fun x H' hy => ?_⟩
    have r4 := g2 x H' hy
    have R4 : Rel K G0 [] ((x, .fz (it i)) :: ((.ref D, .own acc) :: (T ++ (S ++ F)))) (wipe σ vs) H' Γ2 := ⟨R3.fit, R3.al, r4.perm (by
      show ((x, O.fz (it i)) :: (S ++ ([(V.ref D, O.own acc)] ++ (T ++ (ents (wipe σ vs) Γ2 ++ F))))).Perm (ents (wipe σ vs) Γ2 ++ ([(x, O.fz (it i))] ++ ([(V.ref D, O.own acc)] ++ (T ++ (S ++ F)))))
      refine List.Perm.trans ?_ (pq [(x, O.fz (it i))] (ents (wipe σ vs) Γ2) _)
      refine List.Perm.cons _ ?_
      refine (pq S [(V.ref D, O.own acc)] _).trans ?_
      refine List.Perm.trans ?_ (pq [(V.ref D, O.own acc)] (ents (wipe σ vs) Γ2) _)
      refine List.Perm.cons _ ?_
      refine (pq S T _).trans ?_
      refine List.Perm.trans ?_ (pq T (ents (wipe σ vs) Γ2) _)
      exact List.Perm.append_left T (pq S _ F))⟩
    refine ⟨G0, Γ2, (.ref D, .own acc) :: (T ++ (S ++ F)), it i, _, R4, is i acc Γ2 hlt iv, fun Γ3 σ3 H3 k3 ag R5 => ⟨?_, G0, Γ3, [], _, _, R5, k3, fun b Γ4 H4 k4 R6 => ?_⟩⟩
    · rw [agree_wipe ag hw]
      exact lc_read.wipe_wipe σ vs
    · have hw3 : wipe σ3 vs = wipe σ vs := by rw [agree_wipe ag hw]; exact lc_read.wipe_wipe σ vs
      cases b with
      | false =>
        refine iteF ?_
        refine ⟨acc, _, k4.2 rfl, ?_⟩
        rw [← hw3]
        exact Rel.wiped R6 vs
      | true =>
        refine iteT ?_
        refine ⟨G0, Γ4, [], _, _, R6, k4.1 rfl, fun n1 it1 Γ5 J1 S1 H5 ⟨Jv, j0, js, je⟩ fd1 R7 => ?_⟩
        have R7 : Rel K G0 [] (S1 ++ ((.ref D, .own acc) :: (T ++ (S ++ F)))) σ3 H5 Γ5 := R7
        have R8 : Rel K G0 [] ((.ref D, .own acc) :: (S1 ++ (T ++ (S ++ F)))) σ3 H5 Γ5 := ⟨R7.fit, R7.al, R7.r.perm (List.Perm.append_left (ents σ3 Γ5) List.perm_middle)⟩
        refine lc_in (F := T ++ (S ++ F)) hw1 fd1 j0 js (R8.wiped vs1) fun acc' Γ6 H6 jv R9 => ⟨acc', _, je acc' Γ6 jv, ?_⟩
        obtain ⟨f1, f2⟩ := fit_unwipe R9.fit
        have R10 : Rel K G0 [] ((.ref D, .own acc') :: (S1 ++ (T ++ (S ++ F)))) σ3 H6 Γ6 := ⟨f1, fun _ _ m => by simp at m, by
          show R K G0 H6 (ents σ3 Γ6 ++ _)
          rw [f2]
          exact R9.r⟩
        have R11 : Rel K G0 [] (S1 ++ ((.ref D, .own acc') :: (T ++ (S ++ F)))) σ3 H6 Γ6 := ⟨R10.fit, R10.al, R10.r.perm (List.Perm.append_left (ents σ3 Γ6) List.perm_middle.symm)⟩
        rw [← hw3]
        exact (R11.dropF).wiped vs
  · obtain rfl : i = n := by omega
    have fr := fd.stop (rS (M := [(.ref D, .own acc)]) R3)
    refine .inl ⟨fr, ?_⟩
    obtain ⟨f1, f2⟩ := fit_unwipe R3.fit
    have R4 : Rel K G0 [] ((.ref D, .own acc) :: (T ++ (S ++ F))) σ H2 Γ2 := ⟨f1, fun _ _ m => by simp at m, by
      show R K G0 H2 (ents σ Γ2 ++ _)
      rw [f2]
      exact R3.r⟩
    have R5 : Rel K G0 T (S ++ ((.ref D, .own acc) :: F)) σ H2 Γ2 := Rel.unallF R2.al ⟨R4.fit, R4.al, R4.r.perm (by
      show (ents σ Γ2 ++ ((V.ref D, O.own acc) :: (T ++ (S ++ F)))).Perm (ents σ Γ2 ++ (T ++ (S ++ ((V.ref D, O.own acc) :: F))))
      refine List.Perm.append_left _ ?_
      refine List.Perm.trans ?_ (List.Perm.append_left T List.perm_middle.symm)
      exact List.perm_middle.symm)⟩
    exact q _ Γ2 _ H2 (ie acc Γ2 iv) (Rel.ofF' (by intro _ z; cases z) R5.dropF)
theorem de_lc2 {vs1 : List Nat} (hN : X.N.Nodup) (hi : DI X tg iter τi) (ok : BlkOk X.N X.env.scope scope own)
    (hg : ∀ (s : Shared) (H : Hp) (C : Addr) (cl : List (Str × Addr)) (fp : List Addr), DG (X.blk s H scope (compEnvC scope cl C X.env) fp) tg ws γ) (ht : ∀ (s : Shared) (H : Hp) (C : Addr) (cl : List (Str × Addr)) (fp : List Addr), DTs (X.blk s H scope (compEnvC scope cl C X.env) fp) ifs tt)
    (hi1 : ∀ (s : Shared) (H : Hp) (C : Addr) (cl : List (Str × Addr)) (fp : List Addr), DI (X.blk s H scope (compEnvC scope cl C X.env) fp) tg1 iter1 τi1)
    (hg1 : ∀ (s : Shared) (H : Hp) (C : Addr) (cl : List (Str × Addr)) (fp : List Addr), DG (X.blk s H scope (compEnvC scope cl C X.env) fp) tg1 ws1 γ1) (ht1 : ∀ (s : Shared) (H : Hp) (C : Addr) (cl : List (Str × Addr)) (fp : List Addr), DTs (X.blk s H scope (compEnvC scope cl C X.env) fp) ifs1 tt1)
    (he : ∀ (s : Shared) (H : Hp) (C : Addr) (cl : List (Str × Addr)) (fp : List Addr), DE (X.blk s H scope (compEnvC scope cl C X.env) fp) elt te) (hw : ∀ i ∈ ws, i ∈ own.map (·.2) := by decide) (hw1 : ∀ i ∈ ws1, i ∈ vs1 := by decide) (hv : ∀ i ∈ vs1, i ∈ own.map (·.2) := by decide) (hc : X.calm = true := by rfl)
    (hs : ∀ x, foldedSetIterable iter X.env x = pure x := by intro _; rfl) (hs1 : ∀ env x, foldedSetIterable iter1 env x = pure x := by intro _ _; rfl) :
    DE X (.ListComp elt [⟨tg, iter, ifs, 0⟩, ⟨tg1, iter1, ifs1, 0⟩] scope pos) (dLc2 τi γ tt τi1 γ1 tt1 te (own.map (·.2)) vs1) := peI (pe_lc2 hc hN hi ok hv hg ht hi1 hg1 ht1 he hs hs1) fun σ H Q h => lc2_read hw hw1 h
end
theorem take_at {α : Type} {l : List α} {i : Nat} (d : α) (h : i < l.length) : l.take (i + 1) = l.take i ++ [l.getD i d] := by
  rw [List.take_add_one, List.getElem?_eq_getElem h, List.getD_eq_getElem?_getD, List.getElem?_eq_getElem h]
  rfl
theorem range_at (i : Nat) : List.range (i + 1) = List.range i ++ [i] := List.range_succ
end Dl
end
section
namespace Dl
open PySem PySem.Spec PyProof.Rows L2
end Dl
end
section
namespace Dl
open PySem PySem.Spec PyProof.Rows L2
theorem R.toBox {K : PySem.W.Frag} {G0 H : Hp} {L : Ent} {v : V} {a b c : Int} {n : Nat} (r : R K G0 H ((v, .own [.int a, .int b, .int c]) :: L)) (h1 : 0 ≤ a) (h2 : 0 ≤ b) (h3 : b < 2 ^ 62) (h4 : 0 ≤ c) (h5 : c ≤ (n : Int)) : ∃ p, R K G0 H ((v, .box p n) :: L) := by
  obtain ⟨G, f, g, s0, s1, e1, e2, nd, hn⟩ := R.cons_iff.mp r
  unfold dn at e1
  obtain ⟨p, vs, rfl, rfl, e3, e4⟩ := e1
  refine ⟨p, R.cons_iff.mpr ⟨G, [p], g, s0, s1, ?_, e2, nd, hn⟩⟩
  unfold dn
  have ev := dpAll_ints_inv (ns := [a, b, c]) e4
  subst ev
  exact ⟨a, b, c, rfl, rfl, e3, h1, h2, h3, h4, h5⟩
section
variable {X : Cx} {τ : TEd} {pos : Pos} {e : Expr}
/-- name = e, a new box -/
def isBox (n : Nat) (o : O) : Prop := ∃ a b c : Int, o = .own [.int a, .int b, .int c] ∧ 0 ≤ a ∧ 0 ≤ b ∧ b < 2 ^ 62 ∧ 0 ≤ c ∧ c ≤ (n : Int)
end
theorem tabs_start {K : PySem.W.Frag} {G H : Hp} : ∀ {L : List (Str × Str)}, (∀ p ∈ L, H (He.cT K (p.1, none)).2 = some (.tbl #[])) →
    dnAll K G H (L.map fun p => O.ob (TabO p.2)) (L.map fun p => V.ref (He.cT K (p.1, none)).2) (L.map fun p => (He.cT K (p.1, none)).2)
  | [], _ => by
    show dnAll K G H [] [] []
    unfold dnAll
    exact ⟨rfl, rfl⟩
  | p :: L, h => by
    show dnAll K G H (O.ob (TabO p.2) :: L.map fun p => O.ob (TabO p.2)) (V.ref _ :: L.map fun p => V.ref (He.cT K (p.1, none)).2) ([(He.cT K (p.1, none)).2] ++ L.map fun p => (He.cT K (p.1, none)).2)
    unfold dnAll
    refine ⟨_, _, _, _, rfl, rfl, ?_, tabs_start fun q hq => h q (List.mem_cons_of_mem _ hq)⟩
    unfold dn
    exact ⟨⟨_, #[], [], rfl, rfl, h p List.mem_cons_self, True.intro, (fun pos cv hc => by
      have z : codeAmong pos [] = some cv := hc
      simp [codeAmong] at z), fun c hc => by simp at hc⟩, tabO_stab⟩
/-- the tables' addresses -/
def tabA (K : PySem.W.Frag) : List Addr := (tabL K).map fun p => (He.cT K (p.1, none)).2
theorem law_endT {K : PySem.W.Frag} {φ : List Int → List PyData → (O → Prop) → Prop} {H : Hp} {a : Addr} {ns : List Int} {E : XK} (hN : (tabA K).Nodup) (hT : ∀ b ∈ tabA K, H b = some (.tbl #[])) (hS : SqL K H a (ns.map V.int)) (h : φ ns [] fun o => o = .fz (.bool true)) : spS K 0 φ [.ref a] H (fun v _ => v = .bl true) E := by
  refine ⟨off H (tabA K), .ref a, ns, [], [], [], fun o => o = .fz (.bool true), rfl, rfl, rfl, ?_, h, fun o v H' e _ r => ?_⟩
  · have n : ∀ {o : HO}, H a = some o → ¬ tabby o → a ∉ tabA K := fun {o} e t z => by
      have q := hT a z
      rw [e] at q
      cases q
      exact t trivial
    refine R.cons_iff.mpr ⟨off H (tabA K), [], tabA K, Same.refl _, off_same, ?_, ?_, hN, fun b hb => if_pos hb⟩
    · unfold dn
      refine ⟨⟨a, rfl, ?_, rfl⟩, stab_S K ns⟩
      rcases hS with (q | ⟨o, q⟩) | q
      · exact Or.inl (Or.inl ((off_at (n q (fun z => z))).trans q))
      · exact Or.inl (Or.inr ⟨o, (off_at (n q (fun z => z))).trans q⟩)
      · exact Or.inr q
    · have e1 : tO K [] = (tabL K).map fun p => O.ob (TabO p.2) := tabE_O
      have e2 : tV K [] = (tabL K).map fun p => V.ref (He.cT K (p.1, none)).2 := by
        show (tabE K).map (·.1) = _
        unfold tabE
        rw [List.map_map]
        rfl
      show dnAll K _ H (tO K []) (tV K []) _
      rw [e1, e2]
      exact tabs_start fun p hp => hT _ (List.mem_map.mpr ⟨p, hp, rfl⟩)
  · subst e
    exact r.bl
/-- .. of a program without such defs -/
theorem law_end {K : PySem.W.Frag} {φ : List Int → List PyData → (O → Prop) → Prop} {H : Hp} {a : Addr} {ns : List Int} {E : XK} (hK : tabL K = []) (hS : SqL K H a (ns.map V.int)) (h : φ ns [] fun o => o = .fz (.bool true)) : spS K 0 φ [.ref a] H (fun v _ => v = .bl true) E := by
  have e : tabA K = [] := by
    unfold tabA
    rw [hK]
    rfl
  exact law_endT (by rw [e]; exact List.nodup_nil) (by rw [e]; intro b hb; simp at hb) hS h
/-- a def without defaults as it stands -/
theorem toFun {K : PySem.W.Frag} {x qual : Str} {st : Stmt} {f : Addr} {fd : FuncData} (F : FunD K x qual (defArgs st) (defBody st) (defScope st) [] [] f fd) : Fun K x qual st f fd := by
  obtain ⟨oc, od, dV, kV, dc, pm, an, cd, ct, sl, h1, h2, h3, h4, _⟩ := F.ex
  have e : dV = .none := h4.elim (fun z => z.2) fun z => absurd rfl z.1
  subst e
  exact ⟨⟨oc, od, kV, dc, pm, an, cd, ct, sl, h1, h2, h3⟩, F.kp⟩
end Dl
end
section
set_option maxHeartbeats 4000000
namespace Dl
open PySem PySem.Spec PyProof.Rows L2 PySem.W
section
variable {M : Model} {K : Frag}
theorem loop1 {cls : Value} {h : Heap} (X : K.In h) {h2 : Heap} {g : Array GenState} {d : Drawn} {tk : Nat} {os : OsState} (k : ∀ b o, h.get? b = some o → h2.get? b = some o) {A : Around} {E : Value → Shared → Prop} {f : Value → PUnit → Sem (ForInStep PUnit)} 
    (hf : ∀ c v Q, exmOne K cls c = some v → Q (ForInStep.yield PUnit.unit) ⟨h2, g, d, tk, os⟩ → wpAny M A (f c PUnit.unit) Q E ⟨h2, g, d, tk, os⟩) :
    ∀ (cs : List Value) (b : Bool) (Q : PUnit → Shared → Prop), exmAny K cls cs = some b → Q PUnit.unit ⟨h2, g, d, tk, os⟩ → wpAny M A (forIn cs PUnit.unit f) Q E ⟨h2, g, d, tk, os⟩
  | [], b, Q, _, q => by
    rw [List.forIn_nil]
    exact wpAny_pure q
  | c :: cs, b, Q, e, q => by
    obtain ⟨b1, d1, x1, y1, _⟩ := exmAny_cons e
    rw [List.forIn_cons]
    exact wpAny_bind (hf c b1 _ x1 (loop1 X k hf cs d1 Q y1 q))
theorem loop2 {cls : Value} {h : Heap} (X : K.In h) {h2 : Heap} {g : Array GenState} {d : Drawn} {tk : Nat} {os : OsState} {A : Around} {E : Value → Shared → Prop} {f : Value → Option Bool × Unit → Sem (ForInStep (Option Bool × Unit))}
    (hf : ∀ c v Q, exmOne K cls c = some v → Q (if v = true then ForInStep.done (some true, ()) else ForInStep.yield (none, ())) ⟨h2, g, d, tk, os⟩ → wpAny M A (f c (none, ())) Q E ⟨h2, g, d, tk, os⟩) :
    ∀ (cs : List Value) (b : Bool) (Q : Option Bool × Unit → Shared → Prop), exmAny K cls cs = some b → Q (if b = true then (some true, ()) else (none, ())) ⟨h2, g, d, tk, os⟩ → wpAny M A (forIn cs (none, ()) f) Q E ⟨h2, g, d, tk, os⟩
  | [], b, Q, e, q => by
    rw [List.forIn_nil]
    have e : some false = some b := e
    cases e
    exact wpAny_pure q
  | c :: cs, b, Q, e, q => by
    obtain ⟨b1, d1, x1, y1, z1⟩ := exmAny_cons e
    rw [List.forIn_cons]
    refine wpAny_bind (hf c b1 _ x1 ?_)
    cases b1 with
    | true =>
      rw [if_pos rfl]
      subst z1
      exact wpAny_pure q
    | false =>
      rw [if_neg Bool.false_ne_true]
      have z : b = d1 := z1
      subst z
      exact loop2 X hf cs b Q y1 q
theorem exm_list {cls : Value} {tp e : Addr} {cs : List Value} {b : Bool} {h : Heap} (X : K.In h) (LT : Looks M h (typeOf (.ref e)) cls) (hp : IsTup h tp cs.toArray) (hx : exmAny K cls cs = some b) : Looks M h (excMatches (.ref e) (.ref tp)) b := by
  intro A Q E s k₀ q
  obtain ⟨h2, g, d, tk, os⟩ := s
  have k : ∀ b o, h.get? b = some o → h2.get? b = some o := k₀
  obtain ⟨ot, ht, hc, n, hd⟩ := hp
  have LT0 : Looks M h (isInstance (.ref tp) (.type "tuple")) true := ((Looks.ld ht).andThen (by rw [hc]; exact .now)).andThen (Looks.of_pure isSubtype_tuple_tuple)
  have LT := LT.keeps k
  have LT0 := LT0.keeps k
  have ht' := k _ _ ht
  unfold excMatches
  refine wpAny_bind (LT0.at ?_)
  dsimp only
  rw [if_pos rfl]
  first
    | refine wpAny_bind (wpAny_seqItems ht' hd ?_)
    | refine wpAny_bind (wpAny_bind (wpAny_seqItems ht' hd (wpAny_pure ?_)))
  refine wpAny_bind (wpAny_pure ?_)
  show wpAny _ _ (bind (forIn cs _ _) _) _ _ _
  refine wpAny_bind (loop1 X k (fun c v Q hv hq => ?_) cs b _ hx ?_)
  · obtain ⟨e1, _⟩ := exm_cls (M := M) X hv
    refine wpAny_bind ((e1.keeps k).at ?_)
    exact wpAny_pure hq
  · refine wpAny_bind (LT.at ?_)
    show wpAny _ _ (bind (forIn cs _ _) _) _ _ _
    refine wpAny_bind (loop2 X (fun c v Q hv hq => ?_) cs b _ hx ?_)
    · obtain ⟨_, s1⟩ := exm_cls (M := M) X hv
      refine wpAny_bind ((s1.keeps k).at ?_)
      cases v with
      | true => exact wpAny_pure hq
      | false => exact wpAny_pure hq
    · cases b with
      | true => exact wpAny_pure q
      | false => exact wpAny_pure q
end
end Dl
end
section
set_option maxHeartbeats 4000000
namespace Dl
open PySem PySem.Spec PyProof.Rows L2
structure XB (B newId initId : String) (bm : List Value) : Prop where
  ex : ExcBaseFacts B newId initId bm
  st : StoreFacts B bm "object.__setattr__" "object"
  ty : typeOf (.type B) = pure (.type "type")
abbrev bmOf (B : String) : List Value := [.type B, .type "Exception", .type "BaseException", .type "object"]
theorem xb_Value : XB "ValueError" "ValueError.__new__" "ValueError.__init__" (bmOf "ValueError") := ⟨F.excBase_ValueError, F.store_ValueError, by kernel_rfl⟩
end Dl
end
section
set_option maxHeartbeats 4000000
namespace Dl
open PySem PySem.Spec PyProof.Rows L2
def exT (cls : Value) (d : Option Addr) (a : Addr) : HO := .ext fun h => ∃ oe vs, h.get? a = some oe ∧ Zc cls d oe ∧ oe.data = .fields vs
theorem exT_ok {P : Program} {w : World} {H : Hp} {h : Heap} {a : Addr} {cls : Value} {d : Option Addr} {oe : Obj} {vs : Array Value} (e : h.get? a = some oe) (z : Zc cls d oe) (hd : oe.data = .fields vs) : ObjOk P w H h a (exT cls d a) :=
  ⟨⟨oe, vs, e, z, hd⟩, ⟨oe, e⟩, fun _ _ ⟨oe, vs, e, z, hd⟩ k => ⟨oe, vs, k _ e, z, hd⟩⟩
theorem exT_at {P : Program} {w : World} {H : Hp} {h : Heap} {a : Addr} {cls : Value} {d : Option Addr} (ok : HOk P w H h) (e : H a = some (exT cls d a)) : ∃ oe vs, h.get? a = some oe ∧ Zc cls d oe ∧ oe.data = .fields vs :=
  (show ObjOk P w H h a (.ext fun h => ∃ oe vs, h.get? a = some oe ∧ Zc cls d oe ∧ oe.data = .fields vs) from ok a _ e).1
section
variable {X : Cx} {pins : List (Addr × Obj)} {σ : L2.St} {H : Hp} {s : Shared} {a : Addr} {cls : Value} {d : Option Addr} {oe : Obj} {vs : Array Value}
/-- an object of ours that nothing tracks yet -/
theorem x_track (I : Inv X pins σ H s) (na : H a = none) (e : s.heap.get? a = some oe) (z : Zc cls d oe) (hd : oe.data = .fields vs) (new : ∀ b o, X.s_0.heap.get? b = some o → b ≠ a) (nL : a ≠ X.env.locals) (np : ∀ p ∈ X.pn ++ pins, p.1 ≠ a) :
    Inv X pins σ (upd H a (exT cls d a)) s := by
  have ne : ∀ {b : Addr}, b ≠ a → upd H a (exT cls d a) b = H b := fun h => upd_ne h
  have ofs : ∀ {b : Addr} {o : HO}, H b = some o → upd H a (exT cls d a) b = some o := fun h => by rw [ne (ne_of_none h na)]; exact h
  constructor
  · exact I.ok
  · exact I.os
  · exact I.bare
  · constructor
    · exact I.base.keep
    · exact I.base.slot
    · intro b o h1 h2 h3
      rw [ne (new b o h1)]
      exact I.base.free b o h1 h2 h3
    · exact I.base.there
    · exact fun b xs h1 => ofs (I.base.tups b xs h1)
    · exact fun b o u h1 => ofs (I.base.frzs b o u h1)
    · intro b ps h1
      obtain ⟨more, h2⟩ := I.base.tbls b ps h1
      exact ⟨more, ofs h2⟩
  · exact I.loc
  · exact I.cell
  · rw [ne (Ne.symm nL)]
    exact I.free
  · intro x c h1
    have q : c ≠ a := fun w => by
      obtain ⟨v, o, ho, hv⟩ := I.cell x c h1
      rw [w, e] at ho
      cases ho
      rw [hd] at hv
      cases hv
    rw [ne q]
    exact I.freeC x c h1
  · intro p hp
    obtain ⟨h1, h2, h3⟩ := I.pin p hp
    refine ⟨h1, ?_, h3⟩
    rw [ne (np p hp)]
    exact h2
  · intro b o h1
    by_cases hb : b = a
    · subst hb
      rw [upd_same] at h1
      cases h1
      exact exT_ok e z hd
    · rw [ne hb] at h1
      exact (I.hok b o h1).stay (fun _ _ _ y => y) (fun _ y => ofs y) fun _ _ y => ofs y
  · exact I.len
end
/-- the expression behind except tells the classes cs -/
def ExTest (X : Cx) (t : Expr) (cs : List Value) : Prop := ∀ (a : Addr) (pn pins : List (Addr × Obj)) (σ : L2.St) (H : Hp) (s : Shared) (Q E : Value → Shared → Prop), Inv (X.suite a pn) pins σ H s →
  (∀ v h', (∀ b o, s.heap.get? b = some o → h'.get? b = some o) → (∀ (e : Addr) (cls : Value) (b : Bool), PySem.W.Looks (model X.prog X.w) h' (typeOf (.ref e)) cls → PySem.W.exmAny X.K cls cs = some b → PySem.W.Looks (model X.prog X.w) h' (excMatches (.ref e) v) b) → Q v { s with heap := h' }) →
  wpAny (model X.prog X.w) (X.A.mark (some (.ref a))) (eval t X.env) Q E s
inductive NmsOk (X : Cx) : List Expr → List Value → Prop
  | nil : NmsOk X [] []
  | cons {x : Str} {c : Value} {p : Pos} {es : List Expr} {cs : List Value} (hc : Names X x c) (hs : starEach (.Name x p :: es) X.env = (false, eval (.Name x p) X.env) :: starEach es X.env) (r : NmsOk X es cs) : NmsOk X (.Name x p :: es) (c :: cs)
theorem nms_run {X : Cx} {a : Addr} {pn pins : List (Addr × Obj)} {σ : L2.St} {H : Hp} {s : Shared} {E : Value → Shared → Prop} {pos : Pos} (I : Inv (X.suite a pn) pins σ H s) : ∀ {es : List Expr} {cs : List Value}, NmsOk X es cs → ∀ {Q : List Value → Shared → Prop}, Q cs s →
    wpAny (model X.prog X.w) (X.A.mark (some (.ref a))) (spliced (backTo pos (starEach es X.env))) Q E s := by
  intro es cs h
  induction h with
  | nil =>
    intro Q q
    exact Calls.spliced_nil q
  | @cons x c p es cs hc hs r ih =>
    intro Q q
    rw [hs]
    refine Calls.spliced_cons ?_
    have go : wpAny (model X.prog X.w) (X.A.mark (some (.ref a))) (spliced (backTo pos (starEach es X.env))) (fun us s' => Q (c :: us) s') E s := ih q
    obtain ⟨hg, hdb, hm | ⟨hm, hv, hn⟩⟩ := hc
    · exact ld_glob (X := X.suite a pn) I hg hm go hdb
    · exact ld_blt (X := X.suite a pn) I hg hm hv go hn hdb
theorem exTest_tup {X : Cx} {es : List Expr} {cs : List Value} {k : Nat} {pos : Pos} (h : NmsOk X es cs) (hl : cs.length ≤ sizeLine) : ExTest X (.Tuple es k pos) cs := fun a pn pins σ H s Q E I q => by
  refine wpAny_Tuple_spliced ?_
  refine nms_run I h ⟨hl, ?_⟩
  have kp : ∀ b o, s.heap.get? b = some o → (s.heap.push { cls := .type "tuple", data := .seq cs.toArray }).get? b = some o := fun b o e => Heap.get?_push_of_some _ e
  exact q _ _ kp fun e cls b LT hx => exm_list (I.kIn.keeps kp) LT ⟨_, Heap.get?_push_size _ rfl, rfl, _, rfl⟩ hx
/-- what the clause wishes of an exception of the body: it is one of these, and the suite goes on with it tracked -/
def wT (K : PySem.W.Frag) (cs : List Value) (i : Nat) (ts : TS) (D : Ends) : WX := fun cls d σ H => PySem.W.exmAny K cls cs = some true ∧ ∀ a, H a = none →
  ts { nx := fun σ' H' => D.nx (σ'.set i none) H', rt := D.rt, bk := fun σ' H' => D.bk (σ'.set i none) H', ct := fun σ' H' => D.ct (σ'.set i none) H' } (σ.set i (some (.ref a))) (upd H a (exT cls d a))
theorem fly_keeps {B : Heap} {l : List Env} {a : Addr} {Z : Obj → Prop} {h h' : Heap} (k : ∀ b o, h.get? b = some o → h'.get? b = some o) (x : HandSPX.FlyingZ B l a Z h) : HandSPX.FlyingZ B l a Z h' := by
  obtain ⟨f1, f2, f3, oe, vs, T, oT, ts, e1, e2, e3, e4, e5, e6, e7, e8⟩ := x
  exact ⟨fun b o q => k b o (f1 b o q), f2, Heap.FunFrames.of_keeps (fun b o e _ => ⟨o, k b o e, rfl⟩) f3, oe, vs, T, oT, ts, k _ _ e1, e2, e3, e4, e5, e6, k _ _ e7, e8⟩
section
variable {X : Cx} {t : Expr} {n : Str} {cs : List Value} {i : Nat} {body suite : List Stmt} {b₀ : Stmt} {pos pos' : Pos} {tb : WX → TS} {ts : TS}
theorem ps_tryT (hs : X.stack = X.env :: X.outer) (hf : X.env.frame = some X.env.locals) (hex : X.ex = []) (hN : X.N.Nodup) (hi : X.N[i]? = some n) (hln : X.env.kindOf n = some .local) (hc : ExTest X t cs)
    (hb : ∀ (W : WX) (pn : List (Addr × Obj)) (xe : Value → Shared → Prop), Takes (X.tr pn xe) W → PassesOwn (model X.prog X.w) X.A X.env xe → PSs (X.tr pn xe) body (tb W))
    (hsu : ∀ (a : Addr) (pn : List (Addr × Obj)), PSs (X.suite a pn) (b₀ :: suite) ts) :
    PS X (.Try body [.ExceptHandler (some t) (some n) (b₀ :: suite) pos'] [] [] pos) (fun D σ H => tb (wT X.K cs i ts D) D σ H) := by
  refine ⟨fun pins s σ H D I h => ?_⟩
  have ok := I.ok
  have hfr : X.A.frames = some (X.env :: X.outer) := by rw [ok.frames, hs]
  have here : Loc X.env.scope n := .inl hln
  refine wpAny_Try_except ?_
  refine wpAny_mono ((hb (wT X.K cs i ts D) (X.pn ++ pins) (fun e s₁ => wpAny (model X.prog X.w) X.A (noteFrame e X.env) (fun _ s₂ => wpAny (model X.prog X.w) X.A (setFlight e none) (fun _ s₃ =>
    wpAny (model X.prog X.w) X.A (handleBy e X.env [.ExceptHandler (some t) (some n) (b₀ :: suite) pos']) (SP X pins D) X.xe s₃) X.xe s₂) X.xe s₁) (fun u s' hx => ?_) PassesOwn.looking).run [] s σ H D (I.toTry _) h) (fun f s1 hsp => ?_) (fun _ _ he => he)
  · obtain ⟨a, B, sI, pins2, σ1, H1, cls, d, rfl, J0, inB, up0, air, na, hos, hag, hany, hgo⟩ := hx
    have J : Inv X pins σ1 H1 sI := J0.ofTry ok
    have air : Sky B (X.env :: X.outer) a (Zc cls d) X.env.locals s'.heap := by rw [← hs]; exact air
    show wpAny (model X.prog X.w) X.A (noteFrame (.ref a) X.env) _ _ _
    refine Sky.land Zc.steady hfr hf air fun h3 fly3 up3 => ?_
    have noB : B.get? a = none := fly3.2.1
    have inI : ∀ b o, sI.heap.get? b = some o → b ∉ frs X.stack → b ≠ a := fun b o q nb w => by
      have z := inB b o q nb
      rw [w, noB] at z
      cases z
    -- the exception stands in no frame
    have apart : ∀ {h : Heap} {o : Obj} {vs : Array Value}, h.FunFrames B (X.env :: X.outer) → h.get? a = some o → o.data = .fields vs → a ∉ frs (X.env :: X.outer) := fun {h o vs} ff e dd hm => by
      obtain ⟨_, o2, e2, hnf⟩ := ff.mem hm
      rw [e] at e2
      cases e2
      exact hnf _ dd
    have J3 : Inv X pins σ1 H1 { s' with heap := h3 } := J.landed inB fly3.1 (up0.trans up3) hos hag
    obtain ⟨oe3, vs3, at3, z3, dat3⟩ := fly3.there
    have noF := apart fly3.2.2.1 at3 dat3
    have nL : a ≠ X.env.locals := fun w => noF (List.mem_filterMap.mpr ⟨X.env, List.mem_cons_self, by rw [hf, w]⟩)
    have nF : a ∉ X.fs := fun hm => by
      obtain ⟨e, he, q⟩ := List.mem_filterMap.mp hm
      exact noF (List.mem_filterMap.mpr ⟨e, List.mem_cons_of_mem _ he, q⟩)
    have newS : ∀ b o, X.s_0.heap.get? b = some o → b ≠ a := fun b o q => by
      obtain ⟨o2, q2⟩ := J.base.there b o q (by rw [hex]; simp)
      by_cases hb : b ∈ frs X.stack
      · intro w
        rw [w, hs] at hb
        exact noF hb
      · exact inI b o2 q2 hb
    have np : ∀ p ∈ X.pn ++ pins, p.1 ≠ a := fun p hp => by
      obtain ⟨e1, e2, e3, e4, _⟩ := J.pin p hp
      refine inI p.1 p.2 e1 fun hm => ?_
      rcases List.mem_cons.mp (J.stkSub _ hm) with w | w
      · exact e3 w
      · exact e4 w
    have S3 := J3.suite at3 dat3 na nL nF
    refine wpAny_handleBy_cons (codeAny_handlers_test ?_) (by intro q; cases q)
    refine hc a _ _ _ _ _ _ _ S3 fun v h4 k4 hm => ?_
    have LT : PySem.W.Looks (model X.prog X.w) h4 (typeOf (.ref a)) cls := fun A Q E s k q => wpAny_typeOf_ref (k _ _ (k4 _ _ at3)) (by rw [z3.1]; exact q)
    refine (hm a cls true LT hany).here ?_
    refine codeAny_handlers_suite_as ?_
    have fly4 := fly_keeps k4 fly3
    refine HandSPX.lands_againZ fly4 fun h5 fly5 up5 => ?_
    have up4 : Heap.UpToSlots h3 h4 := Heap.UpToSlots.of_keeps k4
    have J5 : Inv X pins σ1 H1 { s' with heap := h5 } := J.landed inB fly5.1 (((up0.trans up3).trans up4).trans up5) hos hag
    obtain ⟨oe5, vs5, at5, z5, dat5⟩ := fly5.there
    have J6 : Inv X pins σ1 (upd H1 a (exT cls d a)) { s' with heap := h5 } := x_track J5 na at5 z5 dat5 newS nL np
    have S6 : Inv (X.suite a (X.pn ++ pins)) [] σ1 (upd H1 a (exT cls d a)) { s' with heap := h5 } := ⟨J6.ok.suite _ _, J6.os, J6.bare, J6.base, J6.loc, J6.cell, J6.free, J6.freeC, fun p hp => J6.pin p (by rw [List.append_nil] at hp; exact hp), J6.hok, J6.len⟩
    refine store_ok (X := X.suite a (X.pn ++ pins)) (v := .ref a) S6 hN hi here rfl (fun s7 S7 => ?_) (.inr hln)
    refine wpAny_mono ((hsu a (X.pn ++ pins)).run [] s7 _ _ _ S7 (hgo a na)) (fun f s8 hsp => ?_) (fun _ _ z => False.elim z)
    have out : ∀ {σ8 : L2.St} {H8 : Hp} {Q : Shared → Prop}, Inv (X.suite a (X.pn ++ pins)) [] σ8 H8 s8 → (∀ s9, Inv X pins (σ8.set i none) H8 s9 → Q s9) →
        wpAny (model X.prog X.w) X.A (do bindName X.env n .none; unbindBehindTheSuite X.env n pos') (fun _ s9 => Q s9) X.xe s8 := fun {σ8 H8 Q} S8 hq => by
      have J8 : Inv X pins σ8 H8 s8 := ⟨ok, S8.os, S8.bare, S8.base, S8.loc, S8.cell, S8.free, S8.freeC, fun p hp => S8.pin p (List.mem_append_left _ hp), S8.hok, S8.len⟩
      exact gone_ok J8 hN hi hln hq
    cases f with
    | next =>
      obtain ⟨σ8, H8, S8, q8⟩ := hsp
      exact out S8 fun s9 J9 => ⟨_, _, J9, q8⟩
    | brk =>
      obtain ⟨σ8, H8, S8, q8⟩ := hsp
      exact out S8 fun s9 J9 => ⟨_, _, J9, q8⟩
    | cont =>
      obtain ⟨σ8, H8, S8, q8⟩ := hsp
      exact out S8 fun s9 J9 => ⟨_, _, J9, q8⟩
    | ret u =>
      obtain ⟨v8, σ8, H8, S8, r8, q8⟩ := hsp
      exact out S8 fun s9 J9 => ⟨_, _, _, J9, r8, q8⟩
  · cases f with
    | next =>
      obtain ⟨σ', H', J', q⟩ := hsp
      exact wpAny_execs_nil ⟨σ', H', J'.ofTry ok, q⟩
    | brk =>
      obtain ⟨σ', H', J', q⟩ := hsp
      exact ⟨σ', H', J'.ofTry ok, q⟩
    | cont =>
      obtain ⟨σ', H', J', q⟩ := hsp
      exact ⟨σ', H', J'.ofTry ok, q⟩
    | ret u =>
      obtain ⟨v, σ', H', J', r, q⟩ := hsp
      exact ⟨v, σ', H', J'.ofTry ok, r, q⟩
end
end Dl
end
section
set_option maxHeartbeats 4000000
namespace Dl
open PySem PySem.Spec PyProof.Rows L2
end Dl
end
section
set_option maxHeartbeats 4000000
namespace Dl
open PySem PySem.Spec PyProof.Rows L2
/-- a class and what an exception of it holds -/
abbrev XS := Addr × Option (Str × PyData)
def xdP (K : PySem.W.Frag) (f : Str) (d : PyData) : Hp → Hp → V → List Addr → Prop := fun G _ v fp => fp = [] ∧ ∃ dx y, v = .ref dx ∧ G dx = some (.xd [(f, y)]) ∧ Dq K G y d
def exG (K : PySem.W.Frag) (G : Hp) (a C : Addr) : Option (Str × PyData) → Prop
  | none => G a = some (exT (.ref C) none a)
  | some (f, d) => ∃ dx y, G a = some (exT (.ref C) (some dx) a) ∧ G dx = some (.xd [(f, y)]) ∧ Dq K G y d
def exP (K : PySem.W.Frag) (x : XS) : Hp → Hp → V → List Addr → Prop := fun G _ v fp => fp = [] ∧ ∃ a, v = .ref a ∧ exG K G a x.1 x.2
theorem exG_mono {K : PySem.W.Frag} {G G' : Hp} {a C : Addr} (s : Same G G') : ∀ {o : Option (Str × PyData)}, exG K G a C o → exG K G' a C o
  | none, h => s _ _ h
  | some (f, d), ⟨dx, y, h1, h2, h3⟩ => ⟨dx, y, s _ _ h1, s _ _ h2, dp_mono s d y h3⟩
theorem exP_stab {K : PySem.W.Frag} {x : XS} : Stab (exP K x) := ⟨fun ⟨e, a, h1, h2⟩ s _ => ⟨e, a, h1, exG_mono s h2⟩, fun ⟨e, _⟩ a ha => by rw [e] at ha; simp at ha⟩
section
variable {K : PySem.W.Frag} {G0 G H : Hp} {L : Ent} {u v : V} {a C dx : Addr} {f : Str} {d : PyData}
theorem same_both {o : HO} (s : Same G H) (na : G a = none) : Same (upd G a o) (upd H a o) := fun b x k => by
  by_cases q : b = a
  · subst q
    rw [upd_same] at k ⊢
    exact k
  · rw [upd_ne q] at k ⊢
    exact s b x k
theorem apart {os : List O} {vs : List V} {g : List Addr} (h : dnAll K G H os vs g) (na : H a = none) : ∀ b ∈ g, b ≠ a := fun b hb z => by
  obtain ⟨w, q⟩ := dnAll_has _ _ g h b hb
  rw [z, na] at q
  cases q
theorem R.dup {φ : Hp → Hp → V → List Addr → Prop} (r : R K G0 H ((v, .ob φ) :: L)) (h0 : ∀ G H v fp, φ G H v fp → fp = []) : R K G0 H ((v, .ob φ) :: (v, .ob φ) :: L) := by
  obtain ⟨G, f, g, s0, s1, h1, h2, nd, hn⟩ := R.cons_iff.mp r
  have h1' := h1
  unfold dn at h1'
  have e : f = [] := h0 _ _ _ _ h1'.1
  subst e
  refine R.cons_iff.mpr ⟨G, [], [] ++ g, s0, s1, h1, ?_, nd, hn⟩
  simp only [tO, tV, List.cons_append, List.map_cons]
  unfold dnAll
  exact ⟨_, _, [], g, rfl, rfl, h1, h2⟩
theorem R.caught (r : R K G0 H ((.ref dx, .ob (xdP K f d)) :: L)) (na : H a = none) : R K G0 (upd H a (exT (.ref C) (some dx) a)) ((.ref a, .ob (exP K (C, some (f, d)))) :: L) := by
  obtain ⟨G, f0, g, s0, s1, h1, h2, nd, hn⟩ := R.cons_iff.mp r
  unfold dn at h1
  obtain ⟨⟨rfl, dx', y, e1, e2, e3⟩, _⟩ := h1
  cases e1
  have ga : G a = none := s1.free na
  have ap := apart h2 na
  have s2 : Same G (upd G a (exT (.ref C) (some dx) a)) := same_upd ga
  refine R.cons_iff.mpr ⟨_, [], g, s0.trans s2, same_both s1 ga, ?_, dnAll_keep s2 _ _ g h2 fun b hb => upd_ne (ap b hb), nd, fun b hb => ?_⟩
  · unfold dn
    exact ⟨⟨rfl, a, rfl, dx, y, upd_same, s2 _ _ e2, dp_mono s2 d y e3⟩, exP_stab⟩
  · have hb : b ∈ g := hb
    rw [upd_ne (ap b hb)]
    exact hn b hb
theorem R.caught0 (r : R K G0 H L) (na : H a = none) : R K G0 (upd H a (exT (.ref C) none a)) ((.ref a, .ob (exP K (C, none))) :: L) := by
  obtain ⟨G, g, s0, s1, h2, nd, hn⟩ := r
  have ga : G a = none := s1.free na
  have ap := apart h2 na
  have s2 : Same G (upd G a (exT (.ref C) none a)) := same_upd ga
  refine R.cons_iff.mpr ⟨_, [], g, s0.trans s2, same_both s1 ga, ?_, dnAll_keep s2 _ _ g h2 fun b hb => upd_ne (ap b hb), nd, fun b hb => ?_⟩
  · unfold dn
    exact ⟨⟨rfl, a, rfl, upd_same⟩, exP_stab⟩
  · have hb : b ∈ g := hb
    rw [upd_ne (ap b hb)]
    exact hn b hb
end
def XR (K : PySem.W.Frag) (G0 H : Hp) (F : Ent) (o : Option (Str × PyData)) (d : Option Addr) : Prop := match o with
  | none => d = none ∧ R K G0 H F
  | some (f, p) => ∃ dx, d = some dx ∧ R K G0 H ((.ref dx, .ob (xdP K f p)) :: F)
def XRel (K : PySem.W.Frag) (G0 : Hp) (F : Ent) (σ : Sl) (H : Hp) (Γ : Gm) (o : Option (Str × PyData)) (d : Option Addr) : Prop := match o with
  | none => d = none ∧ Rel K G0 [] F σ H Γ
  | some (f, p) => ∃ dx, d = some dx ∧ Rel K G0 [(.ref dx, .ob (xdP K f p))] F σ H Γ
def spX (K : PySem.W.Frag) (n : Nat) (φ : List PyData → (O → Prop) → (XS → Prop) → Prop) : Sp := fun vs H Q E => ∃ G0 ds F Kt Ke, vs.length = ds.length ∧ ds.length = n ∧ R K G0 H (fzs vs ds ++ F) ∧ φ ds Kt Ke ∧
  (∀ o v H', Kt o → (∀ i, o ≠ .al i) → R K G0 H' ((v, o) :: F) → Q v H') ∧ ∀ x d H', Ke x → XR K G0 H' F x.2 d → E (.ref x.1) d H'
structure DEX extends DEnds where
  ex : XS → Gm → Prop
abbrev TSx := DEX → Gm → Prop
def liftSX (K : PySem.W.Frag) (W : WX) (τ : TSx) : TS := fun D σ H => ∃ G0 Γ F E, Rel K G0 [] F σ H Γ ∧ τ E Γ ∧ Leads K G0 F E.toDEnds D ∧ ∀ x d Γ' σ' H', E.ex x Γ' → XRel K G0 F σ' H' Γ' x.2 d → W (.ref x.1) d σ' H'
abbrev DSX (X : Cx) (W : WX) (st : Stmt) (τ : TSx) : Prop := PS X st (liftSX X.K W τ)
abbrev DSXs (X : Cx) (W : WX) (st : List Stmt) (τ : TSx) : Prop := PSs X st (liftSX X.K W τ)
/-- an expression that may raise -/
abbrev TEx := Gm → (O → Gm → Prop) → (XS → Gm → Prop) → Prop
def liftEX (K : PySem.W.Frag) (W : WX) (τ : TEx) : TE := fun σ H Q => ∃ G0 Γ T F Kt Ke, Rel K G0 T F σ H Γ ∧ τ Γ Kt Ke ∧ (∀ o Γ' v H', Kt o Γ' → Rel K G0 ((v, o) :: T) F σ H' Γ' → Q v H') ∧ ∀ x d Γ' H', Ke x Γ' → XRel K G0 F σ H' Γ' x.2 d → W (.ref x.1) d σ H'
abbrev DEXe (X : Cx) (W : WX) (e : Expr) (τ : TEx) : Prop := PE X e (liftEX X.K W τ)
theorem xr_rel {K : PySem.W.Frag} {G0 H H0 : Hp} {T T0 F : Ent} {σ : Sl} {Γ : Gm} {d : Option Addr} (r : Rel K G0 T0 F σ H0 Γ) : ∀ {o : Option (Str × PyData)}, XR K G0 H (T ++ (ents σ Γ ++ F)) o d → XRel K G0 F σ H Γ o d
  | none, ⟨h1, h2⟩ => ⟨h1, r.fit, fun _ _ m => by simp at m, R.dropL (M := T) h2⟩
  | some (f, p), ⟨dx, h1, h2⟩ => ⟨dx, h1, r.fit, AlOk.cons (fun _ _ m => by simp at m) (fun _ z => nomatch z), R.dropL (M := T) (h2.perm (by
      show (_ :: (T ++ (ents σ Γ ++ F))).Perm (T ++ (_ :: (ents σ Γ ++ F)))
      exact List.perm_middle.symm))⟩
section
variable {P : Program} {w : World} {K : PySem.W.Frag} {mg : Str → Option Value} {base : Heap}
theorem fnX {x qual : Str} {st : Stmt} {f : Addr} {fd : FuncData} {N ps : List Str} {k n : Nat} {φ : List PyData → (O → Prop) → (XS → Prop) → Prop} (F : Fun K x qual st f fd) (S : FnScope N ps (defScope st)) (hn : ps.length = n)
    (hbody : ∀ (cdv : Value) (A : Around) (outer : List Env) (s : Shared) (H : Hp) (E : XK), Room k (A.deeper (envOfC qual (defScope st) s.heap.objs.size f cdv)) →
      ∃ τ, DSXs (cxOf (L2.CX P w) P w K mg base N qual (defScope st) f cdv A outer s H E) (fun cls d _ H' => E cls d H') (defBody st) τ ∧ ∀ ds Kt Ke, ds.length = n → φ ds Kt Ke → τ { nx := fun _ => Kt (.fz .none), rt := fun o _ => Kt o, ex := fun x _ => Ke x } (startG N (ds.map .fz))) :
    FnOk P w K mg base (L2.CX P w) (k + 1) f fd ps (spX K n φ) := by
  refine F.okX S (fun vs H Q E h => ?_) (fun cdv A outer s H vs Q E hr h => ?_)
  · obtain ⟨G0, ds, F, Kt, Ke, h1, h2, _⟩ := h
    rw [h1, h2, hn]
  · obtain ⟨τ, hτ, hq⟩ := hbody cdv A outer s H E hr
    obtain ⟨G0, ds, F, Kt, Ke, h1, h2, r, hφ, q, qe⟩ := h
    refine ⟨_, hτ, ?_⟩
    obtain ⟨e1, e2⟩ := ents_start (n := N.length - vs.length) (vs := vs) (os := ds.map .fz) (by rw [List.length_map, h1])
    have e3 : startG N (ds.map .fz) = (ds.map O.fz).map some ++ List.replicate (N.length - vs.length) none := by
      unfold startG
      rw [List.length_map, h1]
    refine ⟨G0, startG N (ds.map .fz), F, _, ⟨?_, fun _ _ m => by simp at m, ?_⟩, hq ds Kt Ke h2 hφ, ⟨fun Γ σ H' k1 r1 => ?_, fun o Γ v σ H' n1 k1 r1 => ?_, fun _ _ _ z => z.elim, fun _ _ _ z => z.elim⟩, fun x d Γ' σ' H' k1 r1 => ?_⟩
    · rw [e3]
      exact e2
    · rw [e3]
      show R K G0 H (ents (vs.map some ++ List.replicate (N.length - vs.length) none) _ ++ F)
      rw [e1, ← fzs_zip]
      exact r
    · have r2 : R K G0 H' (ents σ Γ ++ F) := r1.r
      exact q (.fz .none) .non H' k1 (fun _ z => nomatch z) (r2.dropL.add fun _ => .non)
    · have r2 : R K G0 H' ((v, o) :: (ents σ Γ ++ F)) := r1.r
      refine q o v H' k1 n1 (R.dropL (M := ents σ Γ) (r2.perm ?_))
      exact List.perm_middle.symm
    · refine qe x d H' k1 ?_
      obtain ⟨C, o⟩ := x
      cases o with
      | none =>
        obtain ⟨h1, h2⟩ := r1
        exact ⟨h1, R.dropL (M := ents σ' Γ') h2.r⟩
      | some p =>
        obtain ⟨fl, p⟩ := p
        obtain ⟨dx, h1, h2⟩ := r1
        have r2 : R K G0 H' ((.ref dx, .ob (xdP K fl p)) :: (ents σ' Γ' ++ F)) := h2.r
        exact ⟨dx, h1, R.dropL (M := ents σ' Γ') (r2.perm List.perm_middle.symm)⟩
end
end Dl
end
section
set_option maxHeartbeats 4000000
namespace Dl
open PySem PySem.Spec PyProof.Rows L2
theorem ps_nox {X : Cx} {st : Stmt} {t : TS} (h : PS X.nox st t) : PS X st t := ⟨fun pins s σ H D I hw => wpAny_mono (h.run pins s σ H D (I.wish _) hw) (fun _ _ q => q.unwish) fun _ _ z => z.elim⟩
theorem pa_nox {X : Cx} {es : List Expr} {t : TA} (h : PA X.nox es t) : PA X es t := ⟨fun pos pins s σ H Q I hw =>
  wpAny_mono (h.run pos pins s σ H Q (I.wish _) hw) (fun _ _ ⟨v, H', I', r, q⟩ => ⟨v, H', I'.unwish, r, q⟩) fun _ _ z => z.elim⟩
section
variable {X : Cx} {W : WX} {st : Stmt} {rest : List Stmt} {t u : TSx} {t0 : TSd} {τ : TEx} {τd : TEd} {τt : TTd} {τs : TAd} {pos : Pos} {e : Expr} {es : List Expr}
def xS (t : TSd) : TSx := fun E Γ => t E.toDEnds Γ
theorem dx_of (h : DS X.nox st t0) : DSX X W st (xS t0) := psI (ps_nox h) fun D σ H ⟨G0, Γ, F, E, R1, k, q, _⟩ => ⟨G0, Γ, F, E.toDEnds, R1, k, q⟩
theorem dx_ofs (h : DSs X.nox rest t0) : DSXs X W rest (xS t0) := pssI (PSs.nox h) fun D σ H ⟨G0, Γ, F, E, R1, k, q, _⟩ => ⟨G0, Γ, F, E.toDEnds, R1, k, q⟩
def xSeq (t u : TSx) : TSx := fun E Γ => t { E with nx := u E } Γ
theorem dx_cons (h1 : DSX X W st t) (h2 : DSXs X W rest u) : DSXs X W (st :: rest) (xSeq t u) := pssI (pss_cons h1 h2) fun D σ H ⟨G0, Γ, F, E, R1, k, q, qx⟩ =>
  ⟨G0, Γ, F, { E with nx := u E }, R1, k, ⟨fun Γ1 σ1 H1 k1 R2 => ⟨G0, Γ1, F, E, R2, k1, q, qx⟩, q.rt, q.bk, q.ct⟩, qx⟩
theorem dx_single (h1 : DSX X W st t) : DSXs X W [st] t := pss_one h1
def xIf (c : TTd) (t u : TSx) : TSx := fun E Γ => c Γ fun b Γ1 => (b = true → t E Γ1) ∧ (b = false → u E Γ1)
theorem dx_if {c : Expr} {a b : List Stmt} (hc : DT X.nox c τt) (ha : DSXs X W a t) (hb : DSXs X W b u) : DSX X W (.If c a b pos) (xIf τt t u) := psI (ps_if (PT.nox hc) ha hb) fun D σ H ⟨G0, Γ, F, E, R1, k, q, qx⟩ =>
  ⟨G0, Γ, [], F, _, R1, k, fun c Γ1 H1 k1 R2 => by
    cases c with
    | true => rw [if_pos rfl]; exact ⟨G0, Γ1, F, E, R2, k1.1 rfl, q, qx⟩
    | false => rw [if_neg (by decide)]; exact ⟨G0, Γ1, F, E, R2, k1.2 rfl, q, qx⟩⟩
def xExpr (τ : TEx) : TSx := fun E Γ => τ Γ (fun _ Γ1 => E.nx Γ1) E.ex
theorem dx_expr (he : DEXe X W e τ) (hs : swapsWith e none pos.line X.env = pure false := by rfl) : DSX X W (.Expr e pos) (xExpr τ) := psI (ps_expr he hs) fun D σ H ⟨G0, Γ, F, E, R1, k, q, qx⟩ =>
  ⟨G0, Γ, [], F, _, _, R1, k, fun o Γ1 v H1 k1 R2 => q.nx Γ1 σ H1 k1 R2.drop, fun x d Γ' H' k1 r => qx x d Γ' σ H' k1 r⟩
/-- calls -/
def CanX (P : Program) (w : World) (K : PySem.W.Frag) (mg : Str → Option Value) (base : Heap) (k : Nat) (x : Str) (ps : List Str) (sp : Sp) : Prop :=
  ∃ f fd, mg x = some (.ref f) ∧ PySem.W.keepIn K (.ref f) = true ∧ Binds K fd ps [] ∧ FnOk P w K mg base (L2.CX P w) k f fd ps sp
def CanXW (P : Program) (w : World) (K : PySem.W.Frag) (mg : Str → Option Value) (base : Heap) (k : Nat) (x : Str) (ps ks : List Str) (ix : List Nat) (sp : Sp) : Prop :=
  ∃ f fd, mg x = some (.ref f) ∧ PySem.W.keepIn K (.ref f) = true ∧ Binds K fd ps [] ∧ KwB K fd ps ks ix ∧ FnOk P w K mg base (L2.CX P w) k f fd ps sp
variable {P : Program} {w : World} {K : PySem.W.Frag} {mg : Str → Option Value} {base : Heap} {x : Str} {ps ks : List Str} {n j k : Nat} {ix : List Nat} {φ : List PyData → (O → Prop) → (XS → Prop) → Prop} {p : Pos} {kws : List Keyword} {f : Addr} {fd : FuncData}
theorem CanXW.can {sp : Sp} (c : CanXW P w K mg base k x ps ks ix sp) : CanX P w K mg base k x ps sp := by
  obtain ⟨f, fd, h1, h2, h3, _, h4⟩ := c
  exact ⟨f, fd, h1, h2, h3, h4⟩
theorem CanX.mono {sp : Sp} (c : CanX P w K mg base k x ps sp) (h : k ≤ j) : CanX P w K mg base j x ps sp := by
  obtain ⟨f, fd, h1, h2, h3, h4⟩ := c
  exact ⟨f, fd, h1, h2, h3, h4.mono h⟩
theorem At.canXW {st : Stmt} {N : List Str} (A : At K mg x st ps) (ks : List Str) (ix : List Nat)
    (hk : ∀ (kV doc pm : Value) (an : Option Addr) (cdv ct : Value) (ws : List Value), ws.length = ks.length → bindArgs (PySem.W.fnOf x x (defArgs st) (defBody st) (defScope st) .none kV doc pm an cdv ct) ⟨[], ks.zip ws⟩ = pure (ps.zip (ix.map fun i => ws.getD i .none)))
    (S : FnScope N ps (defScope st)) (hn : ps.length = n)
    (hbody : ∀ (f : Addr) (cdv : Value) (A : Around) (outer : List Env) (s : Shared) (H : Hp) (E : XK), Room k (A.deeper (envOfC x (defScope st) s.heap.objs.size f cdv)) →
      ∃ τ, DSXs (cxOf (L2.CX P w) P w K mg base N x (defScope st) f cdv A outer s H E) (fun cls d _ H' => E cls d H') (defBody st) τ ∧ ∀ ds Kt Ke, ds.length = n → φ ds Kt Ke → τ { nx := fun _ => Kt (.fz .none), rt := fun o _ => Kt o, ex := fun x _ => Ke x } (startG N (ds.map .fz))) : CanXW P w K mg base (k + 1) x ps ks ix (spX K n φ) := by
  obtain ⟨f, fd, h1, h2, h3⟩ := A
  exact ⟨f, fd, h2, h1.kp, h3, Fun.kwb h1 hk, fnX h1 S hn fun cdv A outer s H E hr => hbody f cdv A outer s H E hr⟩
theorem At.canX {st : Stmt} {N : List Str} (A : At K mg x st ps)
    (S : FnScope N ps (defScope st)) (hn : ps.length = n)
    (hbody : ∀ (f : Addr) (cdv : Value) (A : Around) (outer : List Env) (s : Shared) (H : Hp) (E : XK), Room k (A.deeper (envOfC x (defScope st) s.heap.objs.size f cdv)) →
      ∃ τ, DSXs (cxOf (L2.CX P w) P w K mg base N x (defScope st) f cdv A outer s H E) (fun cls d _ H' => E cls d H') (defBody st) τ ∧ ∀ ds Kt Ke, ds.length = n → φ ds Kt Ke → τ { nx := fun _ => Kt (.fz .none), rt := fun o _ => Kt o, ex := fun x _ => Ke x } (startG N (ds.map .fz))) : CanX P w K mg base (k + 1) x ps (spX K n φ) := by
  obtain ⟨f, fd, h1, h2, h3⟩ := A
  exact ⟨f, fd, h2, h1.kp, h3, fnX h1 S hn fun cdv A outer s H E hr => hbody f cdv A outer s H E hr⟩
def xCall (n : Nat) (φ : List PyData → (O → Prop) → (XS → Prop) → Prop) (t : TAd) : TEx := fun Γ Kt Ke => t Γ fun os Γ1 => escs Γ1 os fun ds Γ2 => ds.length = n ∧ φ ds (fun o => Kt o Γ2) (fun x => Ke x Γ2)
theorem useX {G0 : Hp} {Γ : Gm} {T F : Ent} {σ : Sl} {H : Hp} {vs : List V} {os : List O} {Kt : O → Gm → Prop} {Ke : XS → Gm → Prop} {Q : VK} {E : XK} (hl : vs.length = os.length) (R2 : Rel X.K G0 (vs.zip os ++ T) F σ H Γ)
    (k1 : escs Γ os fun ds Γ2 => ds.length = n ∧ φ ds (fun o => Kt o Γ2) (fun x => Ke x Γ2))
    (q : ∀ o Γ' v H', Kt o Γ' → Rel X.K G0 ((v, o) :: T) F σ H' Γ' → Q v H') (qe : ∀ x d Γ' H', Ke x Γ' → XRel X.K G0 F σ H' Γ' x.2 d → E (.ref x.1) d H') : spX X.K n φ vs H Q E := by
  obtain ⟨ds, Γ2, ⟨h1, h2⟩, hl2, R3⟩ := Rel.escapes hl R2 k1
  refine ⟨G0, ds, T ++ (ents σ Γ2 ++ F), _, _, hl2, h1, ?_, h2, fun o v H' k2 n1 r => q o Γ2 v H' k2 ⟨R3.fit, ?_, r⟩, fun x d H' k2 r => qe x d Γ2 H' k2 (xr_rel R3 r)⟩
  · have r := R3.r
    rw [List.append_assoc] at r
    exact r
  · refine AlOk.cons ?_ n1
    exact R2.al |> fun h => fun w j m => h w j (List.mem_append_right _ m)
theorem dxe_call (C : CanX X.prog X.w X.K X.mg X.base j x ps (spX X.K n φ)) (tk : Takes X W) (hr : Room k X.A) (ha : DA X.nox (e :: es) τs) (hj : j ≤ k := by decide) (hg : Gl X x := by rfl)
    (hdb : (x == ("__debug__" : Str)) = false := by decide) (he : starEach (e :: es) X.env = (false, eval e X.env) :: starEach es X.env := by rfl) (hpl : (backTo pos (starEach es X.env)).any (·.1) = false := by rfl) :
    DEXe X W (.Call (.Name x p) (e :: es) [] pos) (xCall n φ τs) := by
  obtain ⟨f, fd, h1, h2, h3, h4⟩ := C
  exact peI (pe_callS (E := WE W) h4 (hr.mono hj) hg h1 h2 h3 (fun σ => passAt tk σ) (pa_nox ha) hdb he hpl) fun σ H Q ⟨G0, Γ, T, F, Kt, Ke, R1, k, q, qe⟩ => ⟨G0, Γ, T, F, _, R1, k, fun os Γ1 vs H1 k1 hl R2 => useX hl R2 k1 q qe⟩
/-- .. where it raises nothing -/
def xCall0 (n : Nat) (φ : List PyData → (O → Prop) → (XS → Prop) → Prop) (t : TAd) : TEd := fun Γ Kt => t Γ fun os Γ1 => escs Γ1 os fun ds Γ2 => ds.length = n ∧ φ ds (fun o => Kt o Γ2) (fun _ => False)
theorem de_canX (C : CanX X.prog X.w X.K X.mg X.base j x ps (spX X.K n φ)) (hr : Room k X.A) (ha : DA X (e :: es) τs) (hj : j ≤ k := by decide) (hg : Gl X x := by rfl)
    (hdb : (x == ("__debug__" : Str)) = false := by decide) (he : starEach (e :: es) X.env = (false, eval e X.env) :: starEach es X.env := by rfl) (hpl : (backTo pos (starEach es X.env)).any (·.1) = false := by rfl) :
    DE X (.Call (.Name x p) (e :: es) [] pos) (xCall0 n φ τs) := by
  obtain ⟨f, fd, h1, h2, h3, h4⟩ := C
  exact peI (pe_call h4 (hr.mono hj) hg h1 h2 h3 .nil passL ha hdb he hpl) fun σ H Q ⟨G0, Γ, T, F, Kt, R1, k, q⟩ => ⟨G0, Γ, T, F, _, R1, k, fun os Γ1 vs H1 k1 hl R2 => by
    show spX X.K n φ (vs ++ []) H1 Q E0
    rw [List.append_nil]
    exact useX (Ke := fun _ _ => False) hl R2 k1 q fun _ _ _ _ z => z.elim⟩
def tCallKS (ks : List Str) (sp : Sp) (gV : List V → List V) (E : L2.St → XK) (tk : TA) : TE := fun σ H Q => tk σ H fun zs H2 => zs.length = ks.length ∧ sp (gV zs) H2 Q (E σ)
theorem pe_callKS {sp : Sp} {E : L2.St → XK} {tk : TA} {CX : CXT} (F : FnOk X.prog X.w X.K X.mg X.base CX k f fd ps sp) (hr : Room k X.A) (hg : Gl X x) (hm : X.mg x = some (.ref f)) (hk : PySem.W.keepIn X.K (.ref f) = true) (hb : KwB X.K fd ps ks ix) (hx : ∀ σ, PassesAt CX X σ (E σ))
    (hkw : PK X kws tk) (hall : (backToKw pos (keywordEach kws X.env)).all (·.1.isSome) = true := by rfl) (hks : (backToKw pos (keywordEach kws X.env)).filterMap (·.1) = ks := by rfl)
    (hdb : (x == ("__debug__" : Str)) = false := by decide)
    (hpl : ((backTo pos (starEach [] X.env)).any (·.1) || (backToKw pos (keywordEach kws X.env)).any (·.1.isNone)) = false := by rfl) :
    PE X (.Call (.Name x p) [] kws pos) (tCallKS ks sp (fun vs => ix.map fun i => vs.getD i .non) E tk) := by
  refine ⟨fun pins s σ H Q I h => ?_⟩
  refine wpAny_Call_Name_kw (ld_glob I hg hm ?_ hdb)
  refine PySem.W.callWith_KW0 (h₀ := X.base) I.ok.mod.kin hk hall ?_ hpl
  refine thn (hkw.run pos pins s σ H _ I h) fun ws s2 ⟨zs, H2, I2, rz, hz, q2⟩ => ⟨I2.kIn, ?_⟩
  rw [hks]
  have r2 := vals_pick rz ix
  refine wpAny_call (codeAny_mono (F.run X.A X.stack s2 H2 ⟨[], ks.zip ws⟩ (ix.map fun i => ws.getD i .none) _ Q (E σ) hr I2.env0 (hb s2 ws I2.kIn (rz.length.symm.trans hz)) r2 q2) fun r s' hq => ?_)
  cases r with
  | error e => exact hx σ pins H2 s2 e s' I2 hq
  | ok fl =>
    cases fl with
    | ret u => exact I2.after hq
    | next => exact False.elim hq
    | brk => exact False.elim hq
    | cont => exact False.elim hq
theorem useXK {G0 : Hp} {Γ : Gm} {T F : Ent} {σ : Sl} {H : Hp} {vs : List V} {os : List O} {Kt : O → Gm → Prop} {Ke : XS → Gm → Prop} {Q : VK} {E : XK} (hl : vs.length = os.length) (R2 : Rel X.K G0 (vs.zip os ++ T) F σ H Γ)
    (k1 : escs Γ os fun ds Γ2 => ix.length = n ∧ φ (pick ix ds) (fun o => Kt o Γ2) (fun x => Ke x Γ2))
    (q : ∀ o Γ' v H', Kt o Γ' → Rel X.K G0 ((v, o) :: T) F σ H' Γ' → Q v H') (qe : ∀ x d Γ' H', Ke x Γ' → XRel X.K G0 F σ H' Γ' x.2 d → E (.ref x.1) d H') : spX X.K n φ (ix.map fun i => vs.getD i .non) H Q E := by
  obtain ⟨ds, Γ2, ⟨h1, h2⟩, hl2, R3⟩ := Rel.escapes hl R2 k1
  have r := R3.r
  rw [List.append_assoc] at r
  obtain ⟨G, g, s0, s1, a, b, nd, hn⟩ := (R.fzs_iff hl2).mp r
  have h3 := dqAll_pick a ix
  refine ⟨G0, pick ix ds, T ++ (ents σ Γ2 ++ F), _, _, dpAll_len h3, by unfold pick; rw [List.length_map, h1], (R.fzs_iff (dpAll_len h3)).mpr ⟨G, g, s0, s1, h3, b, nd, hn⟩, h2, fun o v H' k2 n1 r => q o Γ2 v H' k2 ⟨R3.fit, ?_, r⟩, fun x d H' k2 r => qe x d Γ2 H' k2 (xr_rel R3 r)⟩
  refine AlOk.cons ?_ n1
  exact R2.al |> fun h => fun w j m => h w j (List.mem_append_right _ m)
def xKw0 (n m : Nat) (ix : List Nat) (φ : List PyData → (O → Prop) → (XS → Prop) → Prop) (t : TAd) : TEd := fun Γ Kt => t Γ fun os Γ1 => os.length = m ∧ escs Γ1 os fun ds Γ2 => ix.length = n ∧ φ (pick ix ds) (fun o => Kt o Γ2) (fun _ => False)
theorem de_kwX (C : CanXW X.prog X.w X.K X.mg X.base j x ps ks ix (spX X.K n φ)) (hr : Room k X.A) (ha : DK X kws τs) (hj : j ≤ k := by decide) (hg : Gl X x := by rfl)
    (hall : (backToKw pos (keywordEach kws X.env)).all (·.1.isSome) = true := by rfl) (hks : (backToKw pos (keywordEach kws X.env)).filterMap (·.1) = ks := by rfl)
    (hdb : (x == ("__debug__" : Str)) = false := by decide)
    (hpl : ((backTo pos (starEach [] X.env)).any (·.1) || (backToKw pos (keywordEach kws X.env)).any (·.1.isNone)) = false := by rfl) :
    DE X (.Call (.Name x p) [] kws pos) (xKw0 n ks.length ix φ τs) := by
  obtain ⟨f, fd, h1, h2, h3, hb, h4⟩ := C
  refine peI (pe_callKS (E := fun _ => E0) h4 (hr.mono hj) hg h1 h2 hb (fun σ pins H s e s' I c => passL pins σ H s e s' I c) ha hall hks hdb hpl) fun σ H Q ⟨G0, Γ, T, F, Kt, R1, k, q⟩ => ⟨G0, Γ, T, F, _, R1, k, fun os Γ1 vs H1 ⟨k0, k1⟩ hl R2 => ⟨hl.trans k0, ?_⟩⟩
  exact useXK (Ke := fun _ _ => False) hl R2 k1 q fun _ _ _ _ z => z.elim
end
end Dl
end
section
set_option maxHeartbeats 4000000
namespace Dl
open PySem PySem.Spec PyProof.Rows L2
section
variable {K : PySem.W.Frag} {G0 H H' : Hp} {T F : Ent} {σ : Sl} {Γ : Gm} {v : V} {o : O} {i : Nat}
theorem Rel.slotOb {φ : Hp → Hp → V → List Addr → Prop} (r : Rel K G0 ((v, .al i) :: T) F σ H Γ) (g : get Γ i = some (.ob φ)) : ∃ G fp, Same G H ∧ φ G H v fp ∧ (fp = [] → Same G0 G) := by
  obtain ⟨w, h1, h2, h3⟩ := r.drop.out g
  have e := r.al v i List.mem_cons_self
  rw [h1] at e
  cases e
  obtain ⟨G, f, g', s0, s1, h4, _⟩ := R.cons_iff.mp h2
  unfold dn at h4
  exact ⟨G, f, s1, h4.1, fun _ => s0⟩
theorem unset : ∀ {σ : Sl} {Γ : Gm} {i : Nat}, Fit σ Γ → ents (σ.set i none) (put Γ i none) = ents σ (put Γ i none) ∧ Fit (σ.set i none) (put Γ i none)
  | [], [], _, _ => ⟨rfl, trivial⟩
  | none :: σ, none :: Γ, 0, f => ⟨rfl, f⟩
  | some w :: σ, none :: Γ, 0, f => ⟨rfl, f⟩
  | some w :: σ, some u :: Γ, 0, f => ⟨rfl, f⟩
  | none :: σ, none :: Γ, i + 1, f => unset (σ := σ) (Γ := Γ) (i := i) f
  | some w :: σ, none :: Γ, i + 1, f => unset (σ := σ) (Γ := Γ) (i := i) f
  | some w :: σ, some u :: Γ, i + 1, f => by
    obtain ⟨h1, h2⟩ := unset (σ := σ) (Γ := Γ) (i := i) f
    exact ⟨congrArg ((w, u) :: ·) h1, h2⟩
  | none :: _, some _ :: _, _, f => f.elim
  | [], _ :: _, _, f => f.elim
  | none :: _, [], _, f => f.elim
  | some _ :: _, [], _, f => f.elim
theorem Rel.unset (i : Nat) (r : Rel K G0 [] F σ H Γ) : Rel K G0 [] F (σ.set i none) H (put Γ i none) := by
  have r1 := r.forget i
  obtain ⟨h1, h2⟩ := Dl.unset (i := i) r.fit
  refine ⟨h2, fun _ _ m => by simp at m, ?_⟩
  show R K G0 H (ents (σ.set i none) (put Γ i none) ++ F)
  rw [h1]
  exact r1.r
end
section
variable {X : Cx} {W : WX} {e : Expr} {es : List Expr} {τ : TEd} {τs : TAd} {B newId initId : String} {bm : List Value} {Bn x xs f : Str} {p p' p1 p2 pos pos' : Pos} {k j n : Nat}
def sufE (i : Nat) (E : DEnds) : DEnds := { nx := fun Γ2 => E.nx (put Γ2 i none), rt := E.rt, bk := fun Γ2 => E.bk (put Γ2 i none), ct := fun Γ2 => E.ct (put Γ2 i none) }
def dTry (K : PySem.W.Frag) (cs : List Value) (i : Nat) (t : TSx) (s : TSd) : TSd := fun E Γ => t { nx := E.nx, rt := E.rt, bk := E.bk, ct := E.ct, ex := fun x Γ1 => PySem.W.exmAny K (.ref x.1) cs = some true ∧ s (sufE i E) (put Γ1 i (some (.ob (exP K x)))) } Γ
theorem ds_try {t : Expr} {nm : Str} {cs : List Value} {b₀ : Stmt} {body suite : List Stmt} {tb : TSx} {ts : TSd} (i : Nat) (hN : X.N.Nodup) (hc : ExTest X t cs)
    (hb : ∀ (W : WX) (pn : List (Addr × Obj)) (xe : Value → Shared → Prop), Takes (X.tr pn xe) W → PassesOwn (model X.prog X.w) X.A X.env xe → DSXs (X.tr pn xe) W body tb)
    (hsu : ∀ (a : Addr) (pn : List (Addr × Obj)), DSs (X.suite a pn) (b₀ :: suite) ts)
    (hs : X.stack = X.env :: X.outer := by rfl) (hf : X.env.frame = some X.env.locals := by rfl) (hex : X.ex = [] := by rfl) (hi : X.N[i]? = some nm := by rfl) (hln : X.env.kindOf nm = some .local := by rfl) :
    DS X (.Try body [.ExceptHandler (some t) (some nm) (b₀ :: suite) pos'] [] [] pos) (dTry X.K cs i tb ts) :=
  psI (ps_tryT (tb := fun W => liftSX X.K W tb) (ts := liftS X.K ts) hs hf hex hN hi hln hc hb hsu) fun D σ H ⟨G0, Γ, F, E, R1, k, q⟩ => ⟨G0, Γ, F, _, R1, k, ⟨q.nx, q.rt, q.bk, q.ct⟩, fun x d Γ' σ' H' hx xr => by
    obtain ⟨h1, h2⟩ := hx
    refine ⟨h1, fun a na => ⟨G0, put Γ' i (some (.ob (exP X.K x))), F, _, ?_, h2, ?_⟩⟩
    · obtain ⟨C, o⟩ := x
      cases o with
      | none =>
        obtain ⟨rfl, r⟩ := xr
        have r2 : R X.K G0 H' (ents σ' Γ' ++ F) := r.r
        have r3 : Rel X.K G0 [(.ref a, .ob (exP X.K (C, none)))] F σ' (upd H' a (exT (.ref C) none a)) Γ' := ⟨r.fit, AlOk.cons (fun _ _ m => by simp at m) (fun _ z => nomatch z), R.caught0 r2 na⟩
        exact r3.toF'.store
      | some p =>
        obtain ⟨fl, p⟩ := p
        obtain ⟨dx, rfl, r⟩ := xr
        have r2 : R X.K G0 H' ((.ref dx, .ob (xdP X.K fl p)) :: (ents σ' Γ' ++ F)) := r.r
        have r3 : Rel X.K G0 [(.ref a, .ob (exP X.K (C, some (fl, p))))] F σ' (upd H' a (exT (.ref C) (some dx) a)) Γ' := ⟨r.fit, AlOk.cons (fun _ _ m => by simp at m) (fun _ z => nomatch z), R.caught r2 na⟩
        exact r3.toF'.store
    · exact ⟨fun Γ1 σ1 H1 k1 r1 => q.nx _ _ _ k1 (r1.unset i), fun o Γ1 v σ1 H1 n1 k1 r1 => q.rt o Γ1 v σ1 H1 n1 k1 r1, fun Γ1 σ1 H1 k1 r1 => q.bk _ _ _ k1 (r1.unset i), fun Γ1 σ1 H1 k1 r1 => q.ct _ _ _ k1 (r1.unset i)⟩⟩
/-- y = n, n's an exception -/
def dCopyX (K : PySem.W.Frag) (j i : Nat) : TSd := fun E Γ => ∃ x : XS, get Γ i = some (.ob (exP K x)) ∧ E.nx (put Γ j (some (.ob (exP K x))))
theorem ds_copyX (j i : Nat) {y z : Str} (hN : X.N.Nodup) (hi : X.N[i]? = some z := by rfl) (hv : Vis X.env.scope z := by first | exact Or.inl rfl | exact Or.inr (Or.inl rfl) | exact Or.inr (Or.inr rfl)) (hd : (z == ("__debug__" : Str)) = false := by decide) (hcd : (z == ("__classdict__" : Str)) = false := by decide)
    (hj : X.N[j]? = some y := by rfl) (hx : Loc X.env.scope y := by first | exact Or.inl rfl | exact Or.inr rfl) (hs : swapsWith (.Name z p) (some (.Name y p')) pos.line X.env = pure false := by rfl) (hf : X.fn y = true ∨ X.env.scope.names.lookup y = some .local := by first | exact .inl rfl | exact .inr rfl) :
    DS X (.Assign [.Name y p'] (.Name z p) pos) (dCopyX X.K j i) := psI (ps_set (i := j) hN hj hx (pe_var hi hv hd hcd) hs hf) fun D σ H ⟨G0, Γ, F, E, R1, ⟨x, g, k⟩, q⟩ => by
  obtain ⟨v, h1, h2, h3⟩ := R1.out g
  refine ⟨v, h1, q.nx _ _ H k ?_⟩
  have r2 := R.dup h2 fun _ _ _ _ z => z.1
  have r3 := Rel.back (v := v) (T := [(v, .ob (exP X.K x))]) h3 (AlOk.cons (fun _ _ m => by simp at m) (fun _ z => nomatch z)) (get_lt g) h1 (r2.perm (.swap _ _ _))
  have e : put Γ i (some (.ob (exP X.K x))) = Γ := de_of_var.put_get g
  rw [e] at r3
  exact r3.toF'.store
theorem ds_copyS (j i : Nat) {y z : Str} (hN : X.N.Nodup) (hi : ∀ a pn, (X.suite a pn).N[i]? = some z := by intros; rfl) (hv : ∀ a pn, Vis (X.suite a pn).env.scope z := by intros; first | exact Or.inl rfl | exact Or.inr (Or.inl rfl) | exact Or.inr (Or.inr rfl)) (hd : (z == ("__debug__" : Str)) = false := by decide) (hcd : (z == ("__classdict__" : Str)) = false := by decide)
    (hj : ∀ a pn, (X.suite a pn).N[j]? = some y := by intros; rfl) (hx : ∀ a pn, Loc (X.suite a pn).env.scope y := by intros; first | exact Or.inl rfl | exact Or.inr rfl) (hs : ∀ a pn, swapsWith (.Name z p) (some (.Name y p')) pos.line (X.suite a pn).env = pure false := by intros; rfl) (hf : ∀ a pn, (X.suite a pn).fn y = true ∨ (X.suite a pn).env.scope.names.lookup y = some .local := by intros; first | exact .inl rfl | exact .inr rfl) :
    ∀ (a : Addr) (pn : List (Addr × Obj)), DSs (X.suite a pn) [.Assign [.Name y p'] (.Name z p) pos] (dCopyX X.K j i) := fun a pn => ds_single (ds_copyX (X := X.suite a pn) j i hN (hi a pn) (hv a pn) hd hcd (hj a pn) (hx a pn) (hs a pn) (hf a pn))
end
end Dl
end
section
set_option maxHeartbeats 4000000
namespace Dl
open PySem PySem.Spec PyProof.Rows L2
/-- the class of a caught exception, or None's -/
def ExTy (K : PySem.W.Frag) (H : Hp) (v : V) (t : Value) : Prop := (∃ a C d, v = .ref a ∧ t = .ref C ∧ ExcC K C ∧ H a = some (exT (.ref C) d a) ∧ ∀ dx, d = some dx → ∃ fs, H dx = some (.xd fs)) ∨ TyX K H v t
section
variable {X : Cx}
theorem exc_inst {pins : List (Addr × Obj)} {σ : L2.St} {H : Hp} {s : Shared} {a C : Addr} {d : Option Addr} (I : Inv X pins σ H s) (e : H a = some (exT (.ref C) d a)) (hd : ∀ dx, d = some dx → ∃ fs, H dx = some (.xd fs)) : ∃ ox od, PySem.W.InstAt s.heap a ox C od := by
  obtain ⟨oe, vs, e1, z, e2⟩ := exT_at I.hok e
  have no : PySem.W.notCls oe = true := by unfold PySem.W.notCls; rw [e2] <;> rfl
  cases d with
  | none => exact ⟨oe, none, e1, z.1, no, by rw [z.2]; trivial⟩
  | some dx =>
    obtain ⟨fs, e3⟩ := hd dx rfl
    obtain ⟨mA, hns, _⟩ := (show ObjOk X.prog X.w H s.heap dx (.xd fs) from I.hok dx _ e3)
    obtain ⟨o, _, _, e4, _⟩ := hns
    exact ⟨oe, some o, e1, z.1, no, by rw [z.2]; exact e4⟩
theorem exc_kit {pins : List (Addr × Obj)} {σ : L2.St} {H : Hp} {s : Shared} {v : V} {t u : Value} (I : Inv X pins σ H s) (r : RelV v u) (ty : ExTy X.K H v t) : ∃ P, PySem.W.KitX X.K u t P ∧ P s.heap ∧ u ≠ .builtin "__main__.__loader__#opaque" := by
  rcases ty with ⟨a, C, d, rfl, rfl, c, e, hd⟩ | ty
  · have eu : u = Value.ref a := r
    subst eu
    obtain ⟨ox, od, J⟩ := exc_inst I e hd
    obtain ⟨cd, hc, _⟩ := PySem.W.any_some c.hd
    exact ⟨_, PySem.W.kitx_exc (by rw [hc]; rfl) c.hg c.hk c.hs c.ha c.hn c.ht c.hm, J, fun z => nomatch z⟩
  · obtain ⟨P, Z, p, hx⟩ := kit_of I r ty
    exact ⟨P, Z, p, hx⟩
def rIsX (K : PySem.W.Frag) : List V → Hp → VK → Prop := fun xs H Q => ∃ (v c : V) (t u : Value) (b : Bool), xs = [v, c] ∧ ClsV c u ∧ ExTy K H v t ∧ PySem.W.kitOne K t u = some b ∧ Q (.bl b) H
theorem call_isX : CallR X (.builtin "isinstance") (rIsX X.K) := by
  intro pins s σ H xs us Q I r h
  obtain ⟨v, c, t, u, b, rfl, k, ty, e, q⟩ := h
  obtain ⟨u1, u2, rfl, r1, r2⟩ := vals2 r
  have e2 := k.eq r2
  subst e2
  obtain ⟨P, Z, p, hx⟩ := exc_kit I r1 ty
  exact PySem.W.kia_one Z I.kIn p e hx fun tk => ⟨.bl b, H, I.tok tk, rfl, q⟩
end
/-- the class of what is at hand: an exception by its name, or data -/
def onCls (K : PySem.W.Frag) (Γ : Gm) (o : O) (k : Value → Prop) : Prop := (∃ i x, o = .al i ∧ get Γ i = some (.ob (exP K x)) ∧ ExcC K x.1 ∧ k (.ref x.1)) ∨ (∃ d, vw Γ o = some d ∧ noDict d ∧ k (.type (tyName d)))
section
variable {K : PySem.W.Frag} {G0 H : Hp} {T F : Ent} {σ : Sl} {Γ : Gm} {v : V} {o : O}
theorem exP_use {x : XS} {i : Nat} (r : Rel K G0 ((v, .al i) :: T) F σ H Γ) (g : get Γ i = some (.ob (exP K x))) : ∃ a d, v = .ref a ∧ H a = some (exT (.ref x.1) d a) ∧ ∀ dx, d = some dx → ∃ fs, H dx = some (.xd fs) := by
  obtain ⟨G, fp, s, ⟨_, a, e, h⟩, _⟩ := r.slotOb g
  obtain ⟨C, fo⟩ := x
  cases fo with
  | none => exact ⟨a, none, e, s _ _ h, fun _ z => nomatch z⟩
  | some p =>
    obtain ⟨f, d⟩ := p
    obtain ⟨dx, y, h1, h2, _⟩ := h
    refine ⟨a, some dx, e, s _ _ h1, fun dy z => ?_⟩
    cases z
    exact ⟨_, s _ _ h2⟩
theorem onCls_use {k : Value → Prop} (r : Rel K G0 ((v, o) :: T) F σ H Γ) (h : onCls K Γ o k) : ∃ t, ExTy K H v t ∧ k t := by
  rcases h with ⟨i, x, rfl, g, c, hk⟩ | ⟨d, hv, nd, hk⟩
  · obtain ⟨a, d, e, h1, h2⟩ := exP_use r g
    exact ⟨_, .inl ⟨a, x.1, d, e, rfl, c, h1, h2⟩, hk⟩
  · exact ⟨_, .inr (dq_ty (r.view hv)), hk⟩
end
section
variable {X : Cx} {pos : Pos} {e : Expr} {es : List Expr} {τ τa τb : TEd} {τs : TAd} {a : Expr} {p p1 p2 p3 : Pos} {x1 x2 : Str}
/-- a name that tells a class -/
inductive ClsN (X : Cx) (x : Str) (c : V) (u : Value) : Prop where
  | own {C : Addr} (hm : X.mg x = some (.ref C)) (hc : c = .ref C) (hu : u = .ref C)
  | blt {T : String} (hm : X.mg x = none) (hv : bootBuiltins x = some (.type T)) (hn : x ≠ "__name__") (hc : c = .ty T) (hu : u = .type T)
theorem ClsN.v {x : Str} {c : V} {u : Value} (h : ClsN X x c u) : ClsV c u := by
  cases h with
  | own hm hc hu => rw [hc, hu]; exact .own _
  | blt hm hv hn hc hu => rw [hc, hu]; exact .ty _
theorem ClsN.pe {x : Str} {c : V} {u : Value} (h : ClsN X x c u) (hg : Gl X x) (hd : (x == ("__debug__" : Str)) = false) : PE X (.Name x pos) (tC c) := by
  cases h with
  | own hm hc hu => rw [hc]; exact pe_glob hg hm rfl hd
  | blt hm hv hn hc hu => rw [hc]; exact pe_bltn hg hm hv rfl hn hd
def dIsX (K : PySem.W.Frag) (u : Value) (τ : TEd) : TEd := fun Γ Kt => τ Γ fun o Γ1 => onCls K Γ1 o fun t => ∃ b, PySem.W.kitOne K t u = some b ∧ Kt (.fz (.bool b)) Γ1
theorem de_isX {c : V} {u : Value} (hcn : ClsN X x1 c u) (he : DE X e τ) (hm : X.mg "isinstance" = none) (hg : Gl X "isinstance" := by rfl) (hg1 : Gl X x1 := by rfl) (hd1 : (x1 == ("__debug__" : Str)) = false := by decide)
    (hs : starEach (e :: [.Name x1 p1]) X.env = (false, eval e X.env) :: starEach [.Name x1 p1] X.env := by rfl) (hs1 : starEach (.Name x1 p1 :: []) X.env = (false, eval (.Name x1 p1) X.env) :: starEach [] X.env := by rfl) (hpl : (backTo pos (starEach [.Name x1 p1] X.env)).any (·.1) = false := by rfl) :
    DE X (.Call (.Name "isinstance" p) [e, .Name x1 p1] [] pos) (dIsX X.K u τ) :=
  peI (pe_callB call_isX hg hm (by decide +kernel) (pa_cons he (pa_cons (hcn.pe hg1 hd1) pa_nil hs1) hs) (by decide) (by decide) hs hpl) fun σ H Q ⟨G0, Γ, Tm, F, Kt, R1, k, q⟩ => ⟨G0, Γ, Tm, F, _, R1, k, fun o Γ1 v H1 k1 R2 => by
    obtain ⟨t, h1, b, h2, h3⟩ := onCls_use R2 k1
    exact ⟨v, c, t, u, b, rfl, hcn.v, h1, h2, q _ Γ1 _ H1 h3 (R2.drop.push fun _ => .bl _)⟩⟩
end
end Dl
end
section
set_option maxHeartbeats 4000000
namespace Dl
open PySem PySem.Spec PyProof.Rows L2
section
variable {X : Cx} {pos : Pos} {e : Expr} {es : List Expr} {τ τa τb : TEd} {τs : TAd} {a b : Expr} {p p1 p2 : Pos}
theorem hu_in {A : Around} {k : Nat} (hr : Room k A) : A.units + 65 < cLine := by have := hr.un; omega
end
end Dl
end
section
set_option maxHeartbeats 4000000
namespace Dl
open PySem PySem.Spec PyProof.Rows L2
abbrev bothB {a b : Bool} (h : (a && b) = true) : a = true ∧ b = true := Bool.and_eq_true_iff.mp h
def ecB (K : PySem.W.Frag) (C : Addr) : Bool := He.eqO (PySem.W.findIn K (.ref C) "__getattribute__") (some (some (.builtin "BaseException.__getattribute__"))) && (He.eqO (PySem.W.findIn K (.ref C) "__getattr__") (some none) && (decide (PySem.W.subIn K (.ref C) (.type "BaseException") = some true) && (PySem.W.hasDictIn K C &&
  (He.eqO (PySem.W.findIn K (.ref C) "__class__") (some (some (.builtin "object.__class__"))) && (He.eqO (PySem.W.specialIn K (.builtin "object.__class__") "__get__") (some (some (.builtin "getset_descriptor.__get__"))) && (decide (PySem.W.takesIn K (.builtin "object.__class__") = some true) && decide (PySem.W.mroIn K C (.type "object") = some true)))))))
theorem ecB_ok {K : PySem.W.Frag} {C : Addr} (q : ecB K C = true) : ExcC K C ∧ XfC K C := by
  obtain ⟨q1, q⟩ := bothB q
  obtain ⟨q2, q⟩ := bothB q
  obtain ⟨q3, q⟩ := bothB q
  obtain ⟨q4, q⟩ := bothB q
  obtain ⟨q5, q⟩ := bothB q
  obtain ⟨q6, q⟩ := bothB q
  obtain ⟨q7, q8⟩ := bothB q
  exact ⟨⟨He.eqO_ok q1, He.eqO_ok q2, of_decide_eq_true q3, q4, He.eqO_ok q5, He.eqO_ok q6, of_decide_eq_true q7, of_decide_eq_true q8⟩, ⟨He.eqO_ok q1, He.eqO_ok q2, of_decide_eq_true q3, q4⟩⟩
/-- the pairs of classes of which isinstance, except tell -/
def kitB (K : PySem.W.Frag) (t c : Value) (b : Bool) : Bool := decide (PySem.W.kitOne K t c = some b)
def exmB (K : PySem.W.Frag) (t : Value) (cs : List Value) (b : Bool) : Bool := decide (PySem.W.exmAny K t cs = some b)
abbrev AlX : Type := He.AlD × Bool
def obsX (n : Nat) (fa : List He.Fa) (fn : List He.DefD) (xs : PySem.W.Frag → Bool) (g : Addr → Option Obj) : AlX := (He.obsD fa fn (He.frG g (He.asD g n)), xs (He.frG g (He.asD g n)))
def hookX (n : Nat) (fa : List He.Fa) (fn : List He.DefD) (xs : PySem.W.Frag → Bool) : PySem.W.Hook where
  α := AlX
  obs := fun s => obsX n fa fn xs s.heap.get?
  val := fun _ => (He.valD fn, true)
  says := fun _ h => ∃ K : PySem.W.Frag, K.In h ∧ He.SaysD fa fn K ∧ xs K = true
  of := fun _ _ e => ⟨_, He.frG_in, congrArg Prod.fst e, congrArg Prod.snd e⟩
  keeps := fun _ _ _ ⟨K, hK, c⟩ k => ⟨K, PySem.W.Frag.In.keeps hK k, c⟩
theorem obsX_eq {n : Nat} {fa : List He.Fa} {fn : List He.DefD} {xs : PySem.W.Frag → Bool} {g : Addr → Option Obj} {s : Shared} (h : ∀ a, g a = s.heap.get? a) : obsX n fa fn xs g = (hookX n fa fn xs).obs s := by
  have e : g = s.heap.get? := funext h
  rw [e] <;> rfl
end Dl
end
section
set_option maxHeartbeats 4000000
namespace Dl
open PySem PySem.Spec PyProof.Rows L2
structure X0 (K : PySem.W.Frag) (C : Addr) (newId : String) (bm : List Value) : Prop where
  ob : PySem.W.excIn K C bm newId = true
  ex : PySem.W.subIn K (.ref C) (.type "BaseException") = some true
  ty : PySem.W.typeIn K (.ref C) = some (.type "type")
  kp : PySem.W.keepIn K (.ref C) = true
def x0B (K : PySem.W.Frag) (C : Addr) (newId : String) (bm : List Value) : Bool := PySem.W.excIn K C bm newId && (decide (PySem.W.subIn K (.ref C) (.type "BaseException") = some true) && (decide (PySem.W.typeIn K (.ref C) = some (.type "type")) && PySem.W.keepIn K (.ref C)))
theorem x0B_ok {K : PySem.W.Frag} {C : Addr} {newId : String} {bm : List Value} (q : x0B K C newId bm = true) : X0 K C newId bm := by
  obtain ⟨q1, q⟩ := bothB q
  obtain ⟨q2, q⟩ := bothB q
  obtain ⟨q3, q4⟩ := bothB q
  exact ⟨q1, of_decide_eq_true q2, of_decide_eq_true q3, q4⟩
section
variable {X : Cx} {W : WX} {x : Str} {C : Addr} {B newId initId : String} {bm : List Value} {p pos pos' : Pos}
theorem pmk_none (b : XB B newId initId bm) (T : X0 X.K C newId bm) (gC : X.mg x = some (.ref C)) (hg : Gl X x) (hdb : (x == ("__debug__" : Str)) = false) : PMk X (.Call (.Name x p) [] [] pos) (fun _ H Q => Q (.ref C) none H) := fun pins s σ H Q I h => by
  refine wpAny_Call_Name_kw (ld_glob I hg gC (PySem.W.callWith_K0 I.kIn T.kp ?_) hdb)
  obtain ⟨bm, N, nm, qn, bs, hdct, sn, sub, ab, col, dd, k0, k1, k2, k3, k5, mN, hC, hN, hni, U⟩ := exc_obj I.kIn T.ob
  exact wpAny_call_exc_subT b.ex U hC hN hni (fun h' e hm => mk_of I hm (raises_own T.ex T.ty) h (I.hok.gone hm.new)) (Nat.zero_le _)
def xRaise0 (C : Addr) : TSx := fun E Γ => E.ex (C, none) Γ
theorem dx_raise0 (b : XB B newId initId bm) (T : X0 X.K C newId bm) (gC : X.mg x = some (.ref C)) (tk : Takes X W) (hc : X.calm = true := by rfl) (hg : Gl X x := by rfl) (hdb : (x == ("__debug__" : Str)) = false := by decide) :
    DSX X W (.Raise (some (.Call (.Name x p) [] [] pos)) none pos') (xRaise0 C) :=
  psI (ps_raise hc tk (pmk_none b T gC hg hdb)) fun D σ H ⟨G0, Γ, F, E, R1, k, q, qx⟩ => qx (C, none) none Γ σ H k ⟨rfl, R1⟩
end
end Dl
end
section
set_option maxHeartbeats 4000000
namespace Dl
open PySem PySem.Spec PyProof.Rows L2
structure FnG (P : Program) (w : World) (K : PySem.W.Frag) (mg : Str → Option Value) (base : Heap) (k : Nat) (f : Addr) (fd : FuncData) (ps : List Str) (sp : Sp) : Prop where
  many : ∀ vs H Q E, sp vs H Q E → vs.length = ps.length
  runs : ∀ (A : Around) (outer : List Env) (s : Shared) (H : Hp) (args : Args) (us : List Value) (vs : List V) (Q : VK) (E : XK), Room k A → A.guards = some [] → Env0 P w K mg base A outer s H → BindsTo s fd args (ps.zip us) → Vals vs us → sp vs H Q E →
    codeAny (model P w) A (.call (.ref f) args) (CR CX0 outer P w H s Q E) s
section
variable {P : Program} {w : World} {K : PySem.W.Frag} {mg : Str → Option Value} {base : Heap}
theorem fnG {x qual : Str} {st : Stmt} {f : Addr} {fd : FuncData} {N ps : List Str} {k : Nat} {sp : Sp} (F : Fun K x qual st f fd) (S : FnScope N ps (defScope st)) (hl : ∀ vs H Q E, sp vs H Q E → vs.length = ps.length)
    (hbody : ∀ (cdv : Value) (A : Around) (outer : List Env) (s : Shared) (H : Hp) (vs : List V) (Q : VK) (E : XK), Room k (A.deeper (envOfC qual (defScope st) s.heap.objs.size f cdv)) → A.guards = some [] → sp vs H Q E →
      ∃ t, PSs (cxOf CX0 P w K mg base N qual (defScope st) f cdv A outer s H E).nox (defBody st) t ∧ t { nx := fun _ H' => Q .non H', rt := Q } (start N vs) H) : FnG P w K mg base (k + 1) f fd ps sp := by
  obtain ⟨oc, od, kV, doc, pm, an, cdv, ct, osl, rfl, lk, hcd⟩ := F.ex
  constructor
  · exact hl
  · intro A outer s H args us vs Q E hr g0 e0 hb rv hsp
    have still : ∀ b o, base.get? b = some o → s.heap.get? b = some o := fun b o e => (e0.bs b o e).1
    have KX := e0.mod.kin.keeps still
    obtain ⟨t, ht, q⟩ := hbody cdv A outer s H vs Q E (hr.deeper _) g0 hsp
    have places : ∀ y ∈ ps.zip us, (defScope st).names.lookup y.1 = some .local ∨ ((defScope st).names.lookup y.1 = some .cell ∧ ((cellsFrom (s.heap.objs.size + 1) (defScope st).names []).lookup y.1).isSome = true) := by
      rintro ⟨y, v⟩ hy
      cases S.par y (List.of_mem_zip hy).1 with
      | inl q => exact .inl q
      | inr q => exact .inr ⟨q, PySem.W.cellsFrom_some _ _ _ (.inl q)⟩
    refine codeAny_call_function hr.depth (KX _ _ lk) rfl S.co S.gen rfl (PySem.W.codeRec_of KX hcd) (hb _ _ _ _ (wpAny_newFunctionEnv_cells S.kind places ?_))
    rintro env rfl s1 x
    have I := inv_start (CX := CX0) (P := P) (w := w) (K := K) (mg := mg) (base := base) (E := E) S hr.hd e0 (hl _ _ _ _ hsp) rv x
    refine ⟨(e0.mod.nolimit.keeps still).keeps x.toInCall.keep, codeAny_func (wpAny_mono (ht.nox.run [] s1 (start N vs) H _ I q) ?_ fun e s' z => z)⟩
    intro fl s' z
    cases fl with
    | next => obtain ⟨σ', H', J, k⟩ := z; exact ⟨.non, H', J.os, J.bare, J.base, J.hok, rfl, k⟩
    | ret u => obtain ⟨v, σ', H', J, r, k⟩ := z; exact ⟨v, H', J.os, J.bare, J.base, J.hok, r, k⟩
    | brk => obtain ⟨_, _, _, k⟩ := z; exact k.elim
    | cont => obtain ⟨_, _, _, k⟩ := z; exact k.elim
theorem fnBG {x qual : Str} {st : Stmt} {f : Addr} {fd : FuncData} {N ps : List Str} {k n : Nat} {φ : Nat → List PyData → (O → Nat → Prop) → Prop} (F : Fun K x qual st f fd) (S : FnScope N ps (defScope st)) (hn : ps.length = n + 1)
    (hbody : ∀ (cdv : Value) (A : Around) (outer : List Env) (s : Shared) (H : Hp) (E : XK), Room k (A.deeper (envOfC qual (defScope st) s.heap.objs.size f cdv)) → A.guards = some [] →
      ∃ τ, DSs (cxOf CX0 P w K mg base N qual (defScope st) f cdv A outer s H E).nox (defBody st) τ ∧ ∀ p m ds Kt, ds.length = n → φ m ds Kt →
        τ { nx := fun Γ => ∃ m', get Γ 0 = some (.box p m') ∧ Kt (.fz .none) m', rt := fun o Γ => ∃ m', get Γ 0 = some (.box p m') ∧ Kt o m' } (startG N (.box p m :: ds.map .fz))) :
    FnG P w K mg base (k + 1) f fd ps (spB K n φ) := by
  refine fnG F S (fun vs H Q E h => ?_) (fun cdv A outer s H vs Q E hr hn0 h => ?_)
  · obtain ⟨G0, p, m, ds, vr, F, Kt, rfl, h1, h2, _⟩ := h
    rw [List.length_cons, h1, h2, hn]
  · obtain ⟨τ, hτ, hq⟩ := hbody cdv A outer s H E hr hn0
    obtain ⟨G0, p, m, ds, vr, F, Kt, rfl, h1, h2, r, hφ, q⟩ := h
    refine ⟨_, hτ, ?_⟩
    obtain ⟨e1, e2⟩ := ents_start (n := N.length - (vr.length + 1)) (vs := .ref p :: vr) (os := .box p m :: ds.map .fz) (by rw [List.length_cons, List.length_cons, List.length_map, h1])
    have e3 : startG N (.box p m :: ds.map .fz) = (O.box p m :: ds.map O.fz).map some ++ List.replicate (N.length - (vr.length + 1)) none := by
      unfold startG
      rw [List.length_cons, List.length_map, h1]
    refine ⟨G0, startG N (.box p m :: ds.map .fz), F, _, ⟨?_, fun _ _ m => by simp at m, ?_⟩, hq p m ds Kt h2 hφ, ⟨fun Γ σ H' ⟨m', g, k1⟩ r1 => ?_, fun o Γ v σ H' n1 ⟨m', g, k1⟩ r1 => ?_, fun _ _ _ z => z.elim, fun _ _ _ z => z.elim⟩⟩
    · rw [e3]
      exact e2
    · rw [e3]
      show R K G0 H (ents ((V.ref p :: vr).map some ++ List.replicate (N.length - (vr.length + 1)) none) _ ++ F)
      rw [e1]
      show R K G0 H ((.ref p, .box p m) :: (vr.zip (ds.map .fz) ++ F))
      rw [← fzs_zip]
      exact r
    · obtain ⟨u, _, r2, _⟩ := r1.out g
      obtain ⟨rfl, _⟩ := r2.draw
      have r3 : R K G0 H' ((.ref p, .box p m') :: F) := by
        have r3 : R K G0 H' ((.ref p, .box p m') :: (ents σ (put Γ 0 none) ++ F)) := r2
        refine R.dropL (M := ents σ (put Γ 0 none)) (r3.perm ?_)
        exact List.perm_middle.symm
      exact q (.fz .none) m' .non H' k1 (fun _ z => nomatch z) (r3.add fun _ => .non)
    · obtain ⟨u, _, r2, _⟩ := r1.out g
      obtain ⟨rfl, _⟩ := r2.draw
      refine q o m' v H' k1 n1 ?_
      have r3 : R K G0 H' ((.ref p, .box p m') :: (v, o) :: (ents σ (put Γ 0 none) ++ F)) := r2
      refine R.dropL (M := ents σ (put Γ 0 none)) (r3.perm ?_)
      exact (List.Perm.swap _ _ _).trans ((List.perm_middle.symm.cons _).trans List.perm_middle.symm)
theorem fnSG {P : Program} {w : World} {mg : Str → Option Value} {base : Heap} {x qual : Str} {st : Stmt} {f : Addr} {fd : FuncData} {N ps : List Str} {k n : Nat} {φ : List Int → List PyData → (O → Prop) → Prop} (F : Fun K x qual st f fd) (S : FnScope N ps (defScope st)) (hn : ps.length = n + 1)
    (hbody : ∀ (cdv : Value) (A : Around) (outer : List Env) (s : Shared) (H : Hp) (E : XK), Room k (A.deeper (envOfC qual (defScope st) s.heap.objs.size f cdv)) → A.guards = some [] →
      ∃ τ, DSs (cxOf CX0 P w K mg base N qual (defScope st) f cdv A outer s H E).nox (defBody st) τ ∧ ∀ ns ds Kt, ds.length = n → φ ns ds Kt →
        τ { nx := fun _ => Kt (.fz .none), rt := fun o _ => Kt o } (startG N (scO K ns :: ds.map .fz))) :
    FnG P w K mg base (k + 1) f fd ps (spS K n φ) := by
  refine fnG F S (fun vs H Q E h => ?_) (fun cdv A outer s H vs Q E hr hn0 h => ?_)
  · obtain ⟨G0, p, m, ds, vr, F, Kt, rfl, h1, h2, _⟩ := h
    rw [List.length_cons, h1, h2, hn]
  · obtain ⟨τ, hτ, hq⟩ := hbody cdv A outer s H E hr hn0
    obtain ⟨G0, v, ns, ds, vr, F, Kt, rfl, h1, h2, r, hφ, q⟩ := h
    refine ⟨_, hτ, ?_⟩
    obtain ⟨e1, e2⟩ := ents_start (n := N.length - (vr.length + 1)) (vs := v :: vr) (os := scO K ns :: ds.map .fz) (by rw [List.length_cons, List.length_cons, List.length_map, h1])
    have e3 : startG N (scO K ns :: ds.map .fz) = (scO K ns :: ds.map O.fz).map some ++ List.replicate (N.length - (vr.length + 1)) none := by
      unfold startG
      rw [List.length_cons, List.length_map, h1]
    refine ⟨G0, startG N (scO K ns :: ds.map .fz), F, _, ⟨?_, fun _ _ m => by simp at m, ?_⟩, hq ns ds Kt h2 hφ, ⟨fun Γ σ H' k1 r1 => ?_, fun o Γ v σ H' n1 k1 r1 => ?_, fun _ _ _ z => z.elim, fun _ _ _ z => z.elim⟩⟩
    · rw [e3]
      exact e2
    · rw [e3]
      show R K G0 H (ents ((v :: vr).map some ++ List.replicate (N.length - (vr.length + 1)) none) _ ++ F)
      rw [e1]
      show R K G0 H ((v, scO K ns) :: (vr.zip (ds.map .fz) ++ F))
      rw [← fzs_zip]
      exact r
    · have r2 : R K G0 H' (ents σ Γ ++ F) := r1.r
      exact q (.fz .none) .non H' k1 (fun _ z => nomatch z) (r2.dropL.add fun _ => .non)
    · have r2 : R K G0 H' ((v, o) :: (ents σ Γ ++ F)) := r1.r
      refine q o v H' k1 n1 (R.dropL (M := ents σ Γ) (r2.perm ?_))
      exact List.perm_middle.symm
def CanG (P : Program) (w : World) (K : PySem.W.Frag) (mg : Str → Option Value) (base : Heap) (k : Nat) (x : Str) (ps : List Str) (sp : Sp) : Prop :=
  ∃ f fd, mg x = some (.ref f) ∧ PySem.W.keepIn K (.ref f) = true ∧ Binds K fd ps [] ∧ FnG P w K mg base k f fd ps sp
theorem At.canBG {x : Str} {ps : List Str} {n : Nat} {φb : Nat → List PyData → (O → Nat → Prop) → Prop} {st : Stmt} {N : List Str} {k : Nat} (A : At K mg x st ps) (S : FnScope N ps (defScope st)) (hn : ps.length = n + 1)
    (hbody : ∀ (f : Addr) (cdv : Value) (A : Around) (outer : List Env) (s : Shared) (H : Hp) (E : XK), Room k (A.deeper (envOfC x (defScope st) s.heap.objs.size f cdv)) → A.guards = some [] →
      ∃ τ, DSs (cxOf CX0 P w K mg base N x (defScope st) f cdv A outer s H E).nox (defBody st) τ ∧ ∀ p m ds Kt, ds.length = n → φb m ds Kt →
        τ { nx := fun Γ => ∃ m', get Γ 0 = some (.box p m') ∧ Kt (.fz .none) m', rt := fun o Γ => ∃ m', get Γ 0 = some (.box p m') ∧ Kt o m' } (startG N (.box p m :: ds.map .fz))) : CanG P w K mg base (k + 1) x ps (spB K n φb) := by
  obtain ⟨f, fd, h1, h2, h3⟩ := A
  exact ⟨f, fd, h2, h1.kp, h3, fnBG h1 S hn fun cdv A outer s H E hr hg => hbody f cdv A outer s H E hr hg⟩
end
section
variable {X : Cx} {k j n : Nat} {f : Addr} {fd : FuncData} {ps : List Str} {sp : Sp} {x : Str} {p pos : Pos} {e : Expr} {es : List Expr} {t : TA} {τs : TAd} {φb : Nat → List PyData → (O → Nat → Prop) → Prop}
theorem pe_callG (F : FnG X.prog X.w X.K X.mg X.base k f fd ps sp) (hr : Room k X.A) (g0 : X.A.guards = some []) (hg : Gl X x) (hm : X.mg x = some (.ref f)) (hk : PySem.W.keepIn X.K (.ref f) = true) (hb : Binds X.K fd ps [])
    (ha : PA X (e :: es) t) (hdb : (x == ("__debug__" : Str)) = false) (he : starEach (e :: es) X.env = (false, eval e X.env) :: starEach es X.env) (hpl : (backTo pos (starEach es X.env)).any (·.1) = false) :
    PE X (.Call (.Name x p) (e :: es) [] pos) (tCall sp [] E0 t) := ⟨fun pins s σ H Q I h => by
  refine wpAny_Call_Name_kw (ld_glob I hg hm (PySem.W.callWith_K (h₀ := X.base) I.ok.mod.kin hk (thn (ha.run pos pins s σ H _ I h) ?_) he hpl) hdb)
  rintro us s1 ⟨vs, H1, I1, r, q⟩
  rw [List.append_nil] at q
  have hl : us.length = ps.length := r.length.symm.trans (F.many _ _ _ _ q)
  have b := hb s1 us I1.kIn (by rw [List.append_nil]; exact hl)
  rw [List.append_nil] at b
  refine ⟨I1.kIn, wpAny_call (codeAny_mono (F.runs X.A X.stack s1 H1 _ us vs Q E0 hr g0 I1.env0 b r q) ?_)⟩
  intro z s' hz
  cases z with
  | error e => exact False.elim hz
  | ok fl =>
    cases fl with
    | ret u => exact I1.after hz
    | _ => exact False.elim hz⟩
end
end Dl
end
section
set_option maxHeartbeats 4000000
namespace Dl
open PySem PySem.Spec PyProof.Rows L2
structure ReprOk (d : PyData) : Prop where
  nest : isDisplay d = true
  show_ : d.showable = true
  noD : d.hasDict = false
  low : d.depth ≤ 60
  fits : d.shown.length ≤ sizeLine
def rRepr (K : PySem.W.Frag) : List V → Hp → VK → Prop := fun xs H Q => ∃ v d, xs = [v] ∧ Dp K H v d ∧ ReprOk d ∧ Q (.str d.shown) H
theorem call_reprD {X : Cx} (g0 : X.A.guards = some []) (hu : X.A.units + 65 < cLine) : CallR X (.builtin "repr") (rRepr X.K) := by
  intro pins s σ H xs us Q I r h
  obtain ⟨v, d, rfl, hd, ok, q⟩ := h
  match us, r with
  | [u], .cons ru .nil =>
    obtain ⟨as, rd⟩ := Dp.reads I d v u hd ru
    obtain ⟨a, rfl⟩ := isRef_of_reads rd ok.nest
    exact repr_of_reads' rd ok.show_ (PyData.noDict_hsm ok.noD) g0 (by have := ok.low; omega) (fun _ _ e => e) (fun h' t tk keep => ⟨.str _, H, I.kept (t' := tk) keep, ⟨t, rfl⟩, q⟩) ok.fits
def dRepr (Γ : Gm) (os : List O) (Kt : O → Gm → Prop) : Prop := match os with
  | [o] => (match vw Γ o with
    | some d => ReprOk d ∧ Kt (.fz (.str d.shown)) Γ
    | none => False)
  | _ => False
theorem fit_repr {K : PySem.W.Frag} : FitC K (rRepr K) dRepr := fun G0 Γ T F σ H vs os Kt Q hl R1 h q => by
  unfold dRepr at h
  split at h
  · rename_i o
    split at h
    · rename_i d hv
      match vs, hl with
      | [v], _ =>
        have R2 : Rel K G0 ((v, o) :: T) F σ H Γ := R1
        exact ⟨v, d, rfl, dq_dp d v (noDc_has d h.1.noD) (R2.view hv), h.1, q _ Γ _ _ h.2 (R2.drop.push fun _ => .str _)⟩
    · exact h.elim
  · exact h.elim
section
variable {P : Program} {w : World} {K : PySem.W.Frag} {mg mb : Str → Option Value} {s₁ : Shared} {H : Hp} {a : Addr} {vs : List Value}
/-- what stands ahead of the call, nothing being tracked but the script -/
theorem ahead (KX : K.In s₁.heap) (hns : s₁.heap.Ns mainGlobals mg) (hb : s₁.heap.Ns builtinsNs mb) (hbb : ∀ x : Str, x ≠ "__name__" → mb x = bootBuiltins x) (hlim : s₁.heap.NoLimit) (hg : s₁.gens = #[])
    (ha : s₁.heap.get? a = some { cls := .type "list", data := .seq vs.toArray }) (hok : HOk P w H s₁.heap) (hA : ∀ b, H b ≠ none → b = a ∧ K.lookup a = none) :
    K.In (hidT s₁.heap H) ∧ (hidT s₁.heap H).Ns mainGlobals mg ∧ Env0 P w K mg (hidT s₁.heap H) callerA [] s₁ H := by
  have stay : ∀ {b : Addr} {o : Obj}, s₁.heap.get? b = some o → (b = a → K.lookup a = none → False) → (hidT s₁.heap H).get? b = some o := fun {b o} e n => by
    refine hidT_get e ?_
    cases q : H b with
    | none => rfl
    | some u =>
      obtain ⟨h1, h2⟩ := hA b (by rw [q]; exact Option.some_ne_none u)
      exact (n h1 h2).elim
  have ns : ∀ {b : Addr} {m : Str → Option Value}, s₁.heap.Ns b m → (hidT s₁.heap H).Ns b m := by
    rintro b m ⟨o, es, ep, e, d, r⟩
    refine ⟨o, es, ep, stay e fun z _ => ?_, d, r⟩
    rw [z, ha] at e
    obtain rfl := Option.some.inj e
    exact Data.noConfusion d
  have k1 : K.In (hidT s₁.heap H) := fun b o e => stay (KX b o e) fun z n => by
    rw [z, n] at e
    cases e
  obtain ⟨mc, h1, h2⟩ := hlim
  exact ⟨k1, ns hns, { frames := rfl, mod := ⟨k1, ns hns, ⟨mb, ns hb, hbb⟩, mc, ns h1, h2⟩, bs := fun b o e => of_hidT e, bsz := Nat.le_of_eq (hidT_size _ _), funs := trivial, frf := fun b z => absurd z (List.not_mem_nil), hok := hok, bare := .of_eq hg }⟩
/-- what is kept behind it -/
theorem behind {r : Result} {s' : Shared} (hok : HOk P w H s₁.heap) (hO : Only H) (h : CR CX0 [] P w H s₁ (fun v _ => v = .bl true) E0 r s') : r = .ok (.ret (.bool true)) ∧ OldK s₁.heap s'.heap ∧ s'.os = s₁.os ∧ AllBare s'.gens := by
  cases r with
  | error e => exact False.elim h
  | ok fl =>
    cases fl with
    | ret u =>
      obtain ⟨v, H', h1, h2, un, hok', r', rfl⟩ := h
      have eu : u = Value.bool true := r'
      subst eu
      refine ⟨rfl, OldK.of_keep fun b o e => ?_, h1, h2⟩
      cases hO b with
      | inl n => exact un.keep b o e n (fun z => absurd z (List.not_mem_nil)) (by simp)
      | inr f =>
        obtain ⟨ob, xs, z⟩ := f
        have same : o = ob := Option.some.inj (e.symm.trans (hok b _ z).1)
        rw [same]
        exact (hok' b _ (un.frzs b ob _ z)).1
    | _ => exact False.elim h
theorem law_callG {k : Nat} {fa : Addr} {fd : FuncData} {x : Str} {sp : Sp} {ns : List Int}
    (KX : K.In s₁.heap) (hns : s₁.heap.Ns mainGlobals mg) (hb : s₁.heap.Ns builtinsNs mb) (hbb : ∀ x : Str, x ≠ "__name__" → mb x = bootBuiltins x) (hlim : s₁.heap.NoLimit) (hg : s₁.gens = #[])
    (ha : s₁.heap.get? a = some { cls := .type "list", data := .seq vs.toArray }) (hi : IntsAre vs ns) (hl : ns.length ≤ sizeLine) (hr : Room k callerA)
    (F : ∀ base : Heap, K.In base → base.Ns mainGlobals mg → FnG P w K mg base k fa fd [x] sp) (hbind : ∀ (s : Shared) (u : Value), BindsTo s fd ⟨[u], []⟩ [(x, u)])
    (hsp : ∀ H : Hp, Only H → SqL K H a (ns.map V.int) → sp [.ref a] H (fun v _ => v = .bl true) E0) :
    codeAny (model P w) callerA (.call (.ref fa) ⟨[.ref a], []⟩) (fun r s' => r = .ok (.ret (.bool true)) ∧ OldK s₁.heap s'.heap ∧ s'.os = s₁.os ∧ AllBare s'.gens) s₁ := by
  have rv := vals_ints hi
  have go : ∀ H : Hp, Only H → SqL K H a (ns.map V.int) → HOk P w H s₁.heap → (∀ b, H b ≠ none → b = a ∧ K.lookup a = none) →
      codeAny (model P w) callerA (.call (.ref fa) ⟨[.ref a], []⟩) (fun r s' => r = .ok (.ret (.bool true)) ∧ OldK s₁.heap s'.heap ∧ s'.os = s₁.os ∧ AllBare s'.gens) s₁ := fun H hO hS hok hA => by
    obtain ⟨k1, k2, e0⟩ := ahead KX hns hb hbb hlim hg ha hok hA
    exact codeAny_mono ((F _ k1 k2).runs callerA [] s₁ H _ [.ref a] [.ref a] _ _ hr rfl e0 (hbind s₁ (.ref a)) (.cons rfl .nil) (hsp H hO hS)) fun r s' h => behind hok hO h
  by_cases hk : K.lookup a = none
  · -- the script is tracked
    have at_ : (upd (fun _ => none) a (.frz { cls := .type "list", data := .seq vs.toArray } (.lst (ns.map V.int))) : Hp) a = some (.frz { cls := .type "list", data := .seq vs.toArray } (.lst (ns.map V.int))) := upd_same
    have els : ∀ b, b ≠ a → (upd (fun _ => none) a (.frz { cls := .type "list", data := .seq vs.toArray } (.lst (ns.map V.int))) : Hp) b = none := fun b n => upd_ne n
    refine go _ (fun b => ?_) (.inl (.inr ⟨_, at_⟩)) (fun b u z => ?_) fun b z => ?_
    · by_cases e : b = a
      · rw [e]; exact .inr ⟨_, _, at_⟩
      · exact .inl (els b e)
    · by_cases e : b = a
      · rw [e, at_] at z
        obtain rfl := Option.some.inj z
        rw [e]
        exact ⟨ha, by rw [List.length_map]; exact hl, vs, _, rv, ha⟩
      · rw [els b e] at z
        cases z
    · by_cases e : b = a
      · exact ⟨e, hk⟩
      · exact absurd (els b e) z
  · -- it is one of the module's own objects
    obtain ⟨o, ho⟩ := Option.ne_none_iff_exists'.mp hk
    have e := (KX a o ho).symm.trans ha
    obtain rfl := Option.some.inj e
    exact go (fun _ => none) (fun _ => .inl rfl) (.inr ⟨_, vs.toArray, _, ho, rfl, rfl, rfl, by rw [List.size_toArray, hi.length]; exact hl, by simpa using rv⟩) (fun b u z => by cases (show (none : Option HO) = some u from z)) fun b z => absurd rfl z
end
theorem walk_ofG {l : PySem.W.OpenLaw} {n k : Nat} {q : Program} {loose : List Str} {XP : (Str → Option Value) → Heap → Prop} {YP : World → Heap → Prop} {d : DefRec} {x : Str}
    (hn : l.most = some n) (hn2 : n ≤ sizeLine) (hdf : d.params.defaults = []) (hr : Room k callerA)
    (F : ∀ (w : World) (mg : Str → Option Value) (fa : Addr) (h : Heap), YP w h → h.Ns mainGlobals mg → mg d.name = some (.ref fa) →
      ∃ (K : PySem.W.Frag) (fd : FuncData) (sp : Sp), K.In h ∧ (∀ (s : Shared) (u : Value), BindsTo s fd ⟨[u], []⟩ [(x, u)]) ∧
        (∀ (H : Hp) (a : Addr) (ns : List Int), ns.length ≤ n → Only H → SqL K H a (ns.map V.int) → sp [.ref a] H (fun v _ => v = .bl true) E0) ∧
        ∀ base : Heap, K.In base → base.Ns mainGlobals mg → FnG l.prog w K mg base k fa fd [x] sp) :
    PySem.W.WalkO q loose XP YP l.row.toRowW d [] (fun f vs => PySem.call f vs) := by
  refine Att.attach_call hn hdf ?_
  intro w s₀ s₁ mg mb fa o pm cd doc a vs ns G Y _ _ _ hmg hobj hints hlen hg
  obtain ⟨K, fd, sp, KX, b, p, f⟩ := F w mg fa _ Y G.T.g hmg
  exact law_callG KX G.T.g G.T.b G.T.builtins G.T.nolimit hg hobj hints (Nat.le_trans hlen hn2) hr f b fun H hO hS => p H a ns hlen hO hS
end Dl
end
section
set_option maxHeartbeats 4000000
namespace Dl
open PySem PySem.Spec PyProof.Rows L2
end Dl
namespace Dl
open PySem PySem.Spec PyProof.Rows L2
end Dl
end
section
set_option maxHeartbeats 4000000
namespace Dl
open PySem PySem.Spec PyProof.Rows L2
end Dl
end
section
set_option maxHeartbeats 4000000
namespace Dl
open PySem PySem.Spec PyProof.Rows L2
def shP (p : Addr) (vs : List V) : Hp → Hp → V → List Addr → Prop := fun _ H v fp => v = .ref p ∧ fp = [p] ∧ H p = some (.lst vs)
section
variable {K : PySem.W.Frag} {G0 H : Hp} {L : Ent} {p : Addr} {vs : List V}
theorem R.sh (r : R K G0 H ((.ref p, .ob (shP p vs)) :: L)) : H p = some (.lst vs) := by
  obtain ⟨G, f, g, _, _, h1, _⟩ := R.cons_iff.mp r
  unfold dn at h1
  exact h1.1.2.2
end
end Dl
end
section
set_option maxHeartbeats 4000000
namespace Dl
open PySem PySem.Spec PyProof.Rows L2
section
variable {X : Cx} {W : WX} {tg iter : Expr} {body : List Stmt} {τi : TId} {γ : TGd} {w1 : List Nat} {tb : TSx} {pos : Pos}
theorem XRel.dropF {K : PySem.W.Frag} {G0 H : Hp} {S F : Ent} {σ : Sl} {Γ : Gm} {d : Option Addr} : ∀ {o : Option (Str × PyData)}, XRel K G0 (S ++ F) σ H Γ o d → XRel K G0 F σ H Γ o d
  | none, ⟨h1, h2⟩ => ⟨h1, h2.dropF⟩
  | some (f, p), ⟨dx, h1, h2⟩ => ⟨dx, h1, h2.dropF⟩
end
end Dl
end
section
set_option maxHeartbeats 4000000
namespace Dl
open PySem PySem.Spec PyProof.Rows L2
end Dl
end
section
set_option maxHeartbeats 4000000
namespace Dl
open PySem PySem.Spec PyProof.Rows L2
end Dl
end
section
set_option maxHeartbeats 4000000
namespace Dl
open PySem PySem.Spec PyProof.Rows L2
end Dl
end
section
set_option maxHeartbeats 4000000
namespace Dl
open PySem PySem.Spec PyProof.Rows L2
end Dl
end
section
namespace Kx
open PySem PySem.Spec PyProof.Rows L2 Dl
/-- the promise of a draw -/
def phTake : Nat → List PyData → (O → Nat → Prop) → Prop := fun m ds Kt => ∃ span : Int, ds = [.int span] ∧ 0 < span ∧ span < 1073741824 ∧ m < 2 ^ 60 ∧ ∀ r : Int, 0 ≤ r → r < span → Kt (.fz (.int r)) (m + 1)
abbrev Lin := List (Str × Int)
abbrev z0 : Str × Int := ("", 0)
def Pl (p : PyData) (x : Str × Int) : Prop := ∃ k, itemsOf p = some (k, [.str x.1, .int x.2])
def Ln (d : PyData) (L : Lin) : Prop := ∃ k ps, itemsOf d = some (k, ps) ∧ ps.length = L.length ∧ ∀ i, i < L.length → Pl (ps.getD i .none) (L.getD i z0)
def caps (L : Lin) : Int := (L.map (·.2)).sum
def kindsOk (L : Lin) : Prop := ∀ i, i < L.length → ((L.getD i z0).1 = "yard" ∨ (L.getD i z0).1 = "track") ∧ 1 ≤ (L.getD i z0).2
abbrev natsD (l : List Nat) : List PyData := l.map fun n : Nat => PyData.int (n : Int)
def phCap : List PyData → (O → Prop) → Prop := fun ds Kt => ∃ d L, ds = [d] ∧ Ln d L ∧ L.length ≤ 40 ∧ Kt (.fz (.int (caps L)))
/-- a standing: places of trains -/
abbrev Std := List (List Int)
def St (d : PyData) (S : Std) : Prop := ∃ k ps, itemsOf d = some (k, ps) ∧ ps.length = S.length ∧ ∀ i, i < S.length → ∃ k', itemsOf (ps.getD i .none) = some (k', (S.getD i []).map .int)
end Kx
namespace Kx
open PySem PySem.Spec PyProof.Rows L2 Dl
theorem lt_size {n : Nat} (h : n < 1000) : n < sizeLine := by rw [sizeLine_eq]; omega
theorem le_size {n : Nat} (h : n < 1000) : n ≤ sizeLine := Nat.le_of_lt (lt_size h)
end Kx
namespace Kx
open PySem PySem.Spec PyProof.Rows L2 Dl
theorem ls1 : (1 ≤ sizeLine) = True := eq_true (by decide)
theorem ls2 : (2 ≤ sizeLine) = True := eq_true (by decide)
theorem ls3 : (3 ≤ sizeLine) = True := eq_true (by decide)
theorem ls4 : (4 ≤ sizeLine) = True := eq_true (by decide)
end Kx
namespace Kx
open PySem PySem.Spec PyProof.Rows L2 Dl
theorem shaped_kind {x : Str} (h : x = "yard" ∨ x = "track") : SeqAt.shaped (.str x) = true := by
  rcases h with rfl | rfl <;> decide +kernel
end Kx
namespace Kx
open PySem PySem.Spec PyProof.Rows L2 Dl
theorem shY : SeqAt.shaped (.str "yard") = true := by decide +kernel
theorem filt_at {p : Nat → Bool} (i : Nat) : (List.range (i + 1)).filter p = (List.range i).filter p ++ (if p i then [i] else []) := by
  rw [range_at, List.filter_append, List.filter_cons]
  split <;> simp_all
end Kx
namespace Kx
open PySem PySem.Spec PyProof.Rows L2 Dl
theorem getD_map_int {l : List Int} {j : Nat} (h : j < l.length) : (l.map PyData.int).getD j .none = .int (l.getD j 0) := by
  rw [List.getD_eq_getElem?_getD, List.getElem?_map, List.getD_eq_getElem?_getD, List.getElem?_eq_getElem h]
  rfl
theorem flat_len {S : Std} {i : Nat} (h : i < S.length) (j : Nat) : ((S.take i).flatten ++ (S.getD i []).take j).length ≤ S.flatten.length := by
  have e : S = S.take i ++ (S.getD i [] :: S.drop (i + 1)) := by
    rw [List.getD_eq_getElem?_getD, List.getElem?_eq_getElem h]
    show S = S.take i ++ (S[i] :: S.drop (i + 1))
    rw [List.getElem_cons_drop h, List.take_append_drop]
  have e2 : S.flatten.length = (S.take i).flatten.length + ((S.getD i []).length + (S.drop (i + 1)).flatten.length) := by
    conv => lhs; rw [e]
    rw [List.flatten_append, List.length_append, List.flatten_cons, List.length_append]
  rw [List.length_append, List.length_take, e2]
  omega
theorem flat_at {S : Std} {i : Nat} (h : i < S.length) : (S.take (i + 1)).flatten = (S.take i).flatten ++ S.getD i [] := by
  rw [take_at [] h, List.flatten_append]
  simp
end Kx
namespace Kx
open PySem PySem.Spec PyProof.Rows L2 Dl
theorem lt_size5 {n : Nat} (h : n < 100000) : n < sizeLine := by rw [sizeLine_eq]; omega
abbrev placeD (x : Str × Int) : PyData := .tuple [.str x.1, .int x.2]
abbrev lineD (L : Lin) : PyData := .tuple (L.map placeD)
theorem getD_map {α : Type} {f : α → PyData} {l : List α} {j : Nat} (d : α) (h : j < l.length) : (l.map f).getD j .none = f (l.getD j d) := by
  rw [List.getD_eq_getElem?_getD, List.getElem?_map, List.getD_eq_getElem?_getD, List.getElem?_eq_getElem h]
  rfl
theorem ln_line (L : Lin) : Ln (lineD L) L := ⟨false, L.map placeD, rfl, by rw [List.length_map], fun i h => by
  rw [getD_map z0 h]
  exact ⟨false, rfl⟩⟩
def sizesLe (L : Lin) (t : Int) : Prop := ∀ i, i < L.length → (L.getD i z0).2 ≤ t
def phCell : List Int → List PyData → (O → Prop) → Prop := fun _ ds Kt => ∃ k : Int, ds = [.int k] ∧ 0 ≤ k ∧ ∀ v : Int, Kt (.fz (.int v))
def phBox : List Int → List PyData → (O → Prop) → Prop := fun _ ds Kt => ∃ k : Int, ds = [.int k] ∧ 0 ≤ k ∧ k < 1000 ∧ ∀ a b : Int, 0 ≤ a → 0 ≤ b → b < 2 ^ 62 → Kt (.own [.int a, .int b, .int 0])
def phOf : Nat → List PyData → (O → Nat → Prop) → Prop := fun m ds Kt => ∃ (d : PyData) (k : Bool) (xs : List PyData), ds = [d] ∧ itemsOf d = some (k, xs) ∧ 0 < xs.length ∧ xs.length < 1073741824 ∧ m < 2 ^ 60 ∧ ∀ i : Nat, i < xs.length → Kt (.fz (xs.getD i .none)) (m + 1)
def phStrewn : Nat → List PyData → (O → Nat → Prop) → Prop := fun m ds Kt => ∃ (d : PyData) (k : Bool) (xs : List Int), ds = [d] ∧ itemsOf d = some (k, xs.map .int) ∧ xs.length < 500 ∧ m < 2 ^ 59 ∧ ∀ ys : List Int, ys.Perm xs → Kt (.own (ys.map .int)) (m + xs.length)
def phIds : Nat → List PyData → (O → Nat → Prop) → Prop := fun m ds Kt => ∃ c : Nat, ds = [.int c] ∧ c < 400 ∧ m < 2 ^ 58 ∧
  ∀ (r : List Int) (m' : Nat), r.length = c → r.Nodup → (∀ x ∈ r, 0 ≤ x ∧ x < 2 ^ 40) → m' ≤ m + 2 + 2 * c → Kt (.own (r.map .int)) m'
end Kx
namespace Kx
open PySem PySem.Spec PyProof.Rows L2 Dl
theorem canLay_ints : ∀ l : List Int, PyData.canLayAll0 (l.map .int) = true
  | [] => by simp [PyData.canLayAll0]
  | x :: l => by
    have := canLay_ints l
    simp [PyData.canLayAll0, PyData.canLay0, this]
theorem depth_ints : ∀ l : List Int, PyData.depthAll (l.map .int) ≤ 1
  | [] => by simp [PyData.depthAll]
  | x :: l => by
    have := depth_ints l
    simp [PyData.depthAll, PyData.depth]
    omega
theorem shaped_ints (l : List Int) : SeqAt.shaped (.list (l.map .int)) = true := by
  have h1 := canLay_ints l
  have h2 := depth_ints l
  simp [SeqAt.shaped, PyData.canLay0, PyData.depth, h1]
  omega
theorem shaped_nil : SeqAt.shaped (.list []) = true := by decide +kernel
theorem eqv_nil (l : List PyData) : PyData.eqv (.list l) (.list []) = decide (l = []) := by
  cases l with
  | nil => simp [PyData.eqv, PyData.eqvAll]
  | cons x l => simp [PyData.eqv, PyData.eqvAll]
end Kx
namespace Kx
theorem perm_erase {α : Type} : ∀ {l : List α} {i : Nat} (h : i < l.length), ([l[i]] ++ l.eraseIdx i).Perm l
  | x :: l, 0, _ => .refl _
  | x :: l, i + 1, h => by
    have := perm_erase (l := l) (i := i) (by simpa using h)
    show ([l[i]'(by simpa using h)] ++ (x :: l.eraseIdx i)).Perm (x :: l)
    exact List.perm_middle.trans (List.Perm.cons _ this)
end Kx
namespace Kx
theorem zl1 : ((0 : Nat) < 1) = True := eq_true (by decide)
theorem zl2 : ((0 : Nat) < 2) = True := eq_true (by decide)
theorem zl3 : ((0 : Nat) < 3) = True := eq_true (by decide)
theorem zl4 : ((0 : Nat) < 4) = True := eq_true (by decide)
theorem zl5 : ((0 : Nat) < 5) = True := eq_true (by decide)
theorem zl6 : ((0 : Nat) < 6) = True := eq_true (by decide)
theorem zl7 : ((0 : Nat) < 7) = True := eq_true (by decide)
theorem zl8 : ((0 : Nat) < 8) = True := eq_true (by decide)
theorem zl9 : ((0 : Nat) < 9) = True := eq_true (by decide)
theorem zl10 : ((0 : Nat) < 10) = True := eq_true (by decide)
theorem zl11 : ((0 : Nat) < 11) = True := eq_true (by decide)
end Kx
namespace Kx
theorem map_erase {α β : Type} (f : α → β) : ∀ (l : List α) (i : Nat), (l.map f).eraseIdx i = (l.eraseIdx i).map f
  | [], _ => rfl
  | _ :: _, 0 => rfl
  | x :: l, i + 1 => congrArg (f x :: ·) (map_erase f l i)
end Kx
namespace Kx
open PySem PySem.Spec PyProof.Rows L2 Dl
theorem getD_snoc {α : Type} {l : List α} {x d : α} {i : Nat} (h : i < (l ++ [x]).length) : (i < l.length ∧ (l ++ [x]).getD i d = l.getD i d) ∨ (i = l.length ∧ (l ++ [x]).getD i d = x) := by
  rw [List.length_append, List.length_singleton] at h
  by_cases q : i < l.length
  · left
    refine ⟨q, ?_⟩
    rw [List.getD_eq_getElem?_getD, List.getD_eq_getElem?_getD, List.getElem?_append_left q]
  · right
    have e : i = l.length := by omega
    subst e
    refine ⟨rfl, ?_⟩
    rw [List.getD_eq_getElem?_getD, List.getElem?_append_right (Nat.le_refl _), Nat.sub_self]
    rfl
theorem kindsOk_snoc {L : Lin} {k : Str} {n : Int} (h : kindsOk L) (hk : k = "yard" ∨ k = "track") (hn : 1 ≤ n) : kindsOk (L ++ [(k, n)]) := fun i hi => by
  rcases getD_snoc (d := z0) hi with ⟨q, e⟩ | ⟨q, e⟩
  · rw [e]; exact h i q
  · rw [e]; exact ⟨hk, hn⟩
theorem sizesLe_snoc {L : Lin} {k : Str} {n t : Int} (h : sizesLe L t) (hn : n ≤ t) : sizesLe (L ++ [(k, n)]) t := fun i hi => by
  rcases getD_snoc (d := z0) hi with ⟨q, e⟩ | ⟨q, e⟩
  · rw [e]; exact h i q
  · rw [e]; exact hn
theorem four_of {i : Nat} {a b c d : Int} (h : i < [PyData.int a, .int b, .int c, .int d].length) : ∃ s, [PyData.int a, .int b, .int c, .int d].getD i .none = .int s ∧ (s = a ∨ s = b ∨ s = c ∨ s = d) := by
  match i, h with
  | 0, _ => exact ⟨a, rfl, .inl rfl⟩
  | 1, _ => exact ⟨b, rfl, .inr (.inl rfl)⟩
  | 2, _ => exact ⟨c, rfl, .inr (.inr (.inl rfl))⟩
  | 3, _ => exact ⟨d, rfl, .inr (.inr (.inr rfl))⟩
  | n + 4, h => exact absurd h (by simp)
end Kx
namespace Kx
open PySem PySem.Spec PyProof.Rows L2 Dl
theorem leS {n : Nat} (h : Nat.ble (n + 1) 1000 = true) : n ≤ sizeLine := le_size (Nat.le_of_ble_eq_true h)
theorem ltN {n k : Nat} (h : Nat.ble (n + 1) k = true) : n < k := Nat.le_of_ble_eq_true h
end Kx
namespace Kx
open PySem PySem.Spec PyProof.Rows L2 Dl
def fits (L : Lin) (N : List Int) : Prop := N.length = L.length ∧ ∀ i, i < L.length → 0 ≤ N.getD i 0 ∧ N.getD i 0 ≤ (L.getD i z0).2
def phNumbers : Nat → List PyData → (O → Nat → Prop) → Prop := fun m ds Kt => ∃ (d : PyData) (L : Lin) (c : Nat), ds = [d, .int c] ∧ Ln d L ∧ L.length ≤ 40 ∧ kindsOk L ∧ (c : Int) ≤ caps L ∧ c < 400 ∧ m < 2 ^ 58 ∧
  ∀ N : List Int, fits L N → N.sum = c → Kt (.own (N.map .int)) (m + c)
theorem sum_set : ∀ {N : List Int} {k : Nat} {v : Int}, k < N.length → (N.set k v).sum = N.sum - N.getD k 0 + v
  | x :: N, 0, v, _ => by
    show (v :: N).sum = _
    rw [List.sum_cons, List.sum_cons]
    show v + N.sum = x + N.sum - x + v
    omega
  | x :: N, k + 1, v, h => by
    have := sum_set (N := N) (k := k) (v := v) (by simpa using h)
    show (x :: N.set k v).sum = _
    rw [List.sum_cons, List.sum_cons, this]
    show _ = x + N.sum - N.getD k 0 + v
    omega
theorem getD_set {N : List Int} {k i : Nat} {v : Int} (h : k < N.length) : (N.set k v).getD i 0 = if i = k then v else N.getD i 0 := by
  rw [List.getD_eq_getElem?_getD, List.getD_eq_getElem?_getD, List.getElem?_set]
  by_cases q : i = k
  · subst q
    rw [if_pos rfl, if_pos rfl, if_pos h]
    rfl
  · rw [if_neg (fun z => q z.symm), if_neg q]
theorem sum_le : ∀ {L : Lin} {N : List Int}, N.length = L.length → (∀ i, i < L.length → (L.getD i z0).2 ≤ N.getD i 0) → caps L ≤ N.sum
  | [], [], _, _ => Int.le_refl _
  | x :: L, n :: N, e, h => by
    have h0 := h 0 (by simp)
    have := sum_le (L := L) (N := N) (by simpa using e) fun i hi => h (i + 1) (by simpa using hi)
    unfold caps at this ⊢
    rw [List.map_cons, List.sum_cons, List.sum_cons]
    have h0 : x.2 ≤ n := h0
    omega
  | [], _ :: _, e, _ => by simp at e
  | _ :: _, [], e, _ => by simp at e
def roomT (L : Lin) (N : List Int) (k : Nat) : Bool := decide (N.getD k 0 < (L.getD k z0).2)
end Kx
namespace Kx
open PySem PySem.Spec PyProof.Rows L2 Dl
theorem rep_flat (n : Nat) : (List.replicate n [PyData.int 0]).flatten = (List.replicate n (0 : Int)).map .int := by
  induction n with
  | zero => rfl
  | succ n ih =>
    rw [List.replicate_succ, List.replicate_succ, List.flatten_cons, ih]
    rfl
theorem fits_zero {L : Lin} (h : kindsOk L) : fits L (List.replicate L.length 0) := ⟨List.length_replicate, fun i hi => by
  rw [List.getD_eq_getElem?_getD, List.getElem?_replicate, if_pos hi]
  have := (h i hi).2
  show (0 : Int) ≤ 0 ∧ (0 : Int) ≤ _
  omega⟩
theorem sum_zero (n : Nat) : (List.replicate n (0 : Int)).sum = 0 := by
  induction n with
  | zero => rfl
  | succ n ih => rw [List.replicate_succ, List.sum_cons, ih]; rfl
theorem fits_set {L : Lin} {N : List Int} {k : Nat} (h : fits L N) (hk : k < L.length) (hr : roomT L N k = true) : fits L (N.set k (N.getD k 0 + 1)) := ⟨by rw [List.length_set]; exact h.1, fun i hi => by
  rw [getD_set (by rw [h.1]; exact hk)]
  have h1 := h.2 i hi
  split
  · rename_i e
    subst e
    have := of_decide_eq_true hr
    omega
  · exact h1⟩
theorem room_ex {L : Lin} {N : List Int} (h : fits L N) (hs : N.sum < caps L) : 0 < ((List.range L.length).filter (roomT L N)).length := by
  refine List.length_pos_iff.mpr fun e => ?_
  have : caps L ≤ N.sum := sum_le h.1 fun i hi => by
    by_cases q : roomT L N i = true
    · have m : i ∈ (List.range L.length).filter (roomT L N) := List.mem_filter.mpr ⟨List.mem_range.mpr hi, q⟩
      rw [e] at m
      simp at m
    · have q : ¬ (N.getD i 0 < (L.getD i z0).2) := fun z => q (decide_eq_true z)
      omega
  omega
end Kx
namespace Kx
theorem map_set' {α β : Type} (f : α → β) : ∀ (l : List α) (i : Nat) (x : α), (l.map f).set i (f x) = (l.set i x).map f
  | [], _, _ => rfl
  | _ :: _, 0, _ => rfl
  | y :: l, i + 1, x => congrArg (f y :: ·) (map_set' f l i x)
end Kx
namespace Kx
open PySem PySem.Spec PyProof.Rows L2 Dl
abbrev stdD (S : Std) : PyData := .tuple (S.map fun l => .tuple (l.map .int))
theorem st_std (S : Std) : St (stdD S) S := ⟨false, _, rfl, by rw [List.length_map], fun i h => by
  rw [getD_map [] h]
  exact ⟨false, rfl⟩⟩
theorem sum_take {N : List Int} {i : Nat} (h : i < N.length) : (N.take (i + 1)).sum = (N.take i).sum + N.getD i 0 := by
  rw [take_at 0 h, List.sum_append]
  simp
end Kx
namespace Kx
open PySem PySem.Spec PyProof.Rows L2 Dl
/-- plain data of depth at most n -/
inductive Deep : Nat → PyData → Prop
  | int (n : Nat) (i : Int) : Deep n (.int i)
  | bool (n : Nat) (b : Bool) : Deep n (.bool b)
  | str (n : Nat) (x : Str) : SeqAt.shaped (.str x) = true → Deep n (.str x)
  | none (n : Nat) : Deep n .none
  | list (n : Nat) (ds : List PyData) : ds.length < 100000 → (∀ d ∈ ds, Deep n d) → Deep (n + 1) (.list ds)
  | tuple (n : Nat) (ds : List PyData) : ds.length < 100000 → (∀ d ∈ ds, Deep n d) → Deep (n + 1) (.tuple ds)
mutual
def listed : PyData → PyData
  | .list ds => .list (listedAll ds)
  | .tuple ds => .list (listedAll ds)
  | d => d
def listedAll : List PyData → List PyData
  | [] => []
  | d :: ds => listed d :: listedAll ds
end
theorem listedAll_map : ∀ ds : List PyData, listedAll ds = ds.map listed
  | [] => by simp [listedAll]
  | d :: ds => by simp [listedAll, listedAll_map ds]
def phLists (n : Nat) : List PyData → (O → Prop) → Prop := fun ds Kt => ∃ d, ds = [d] ∧ Deep n d ∧ (∀ xs, listed d = .list xs → Kt (.own xs)) ∧ ((∀ xs, listed d ≠ .list xs) → Kt (.fz d))
def phSame (n : Nat) : List PyData → (O → Prop) → Prop := fun ds Kt => ∃ d, ds = [d, d] ∧ Deep n d ∧ Kt (.fz (.bool true))
end Kx
namespace Kx
open PySem PySem.Spec PyProof.Rows L2 Dl
theorem deep_noDict {n : Nat} {d : PyData} (h : Deep n d) : noDict d := by cases h <;> trivial
end Kx
namespace Kx
open PySem PySem.Spec PyProof.Rows L2 Dl
theorem listed_atom {d : PyData} (h : ∀ xs, listed d ≠ .list xs) : listed d = d := by
  cases d <;> simp [listed] at h ⊢
theorem getD_mem {ds : List PyData} {i : Nat} (h : i < ds.length) : ds.getD i .none ∈ ds := by
  rw [List.getD_eq_getElem?_getD, List.getElem?_eq_getElem h]
  exact List.getElem_mem h
theorem all_rep (n : Nat) : (List.replicate n true).all id = true := by
  induction n with
  | zero => rfl
  | succ n ih => rw [List.replicate_succ, List.all_cons, ih]; rfl
theorem rep_snoc {α : Type} (n : Nat) (x : α) : List.replicate n x ++ [x] = List.replicate (n + 1) x := by
  induction n with
  | zero => rfl
  | succ n ih => rw [List.replicate_succ, List.cons_append, ih]; rfl
end Kx
namespace Kx
open PySem PySem.Spec PyProof.Rows L2 Dl
def phLaw : List Int → List PyData → (O → Prop) → Prop := fun ns ds Kt => ds = [] ∧ ns.length ≤ 63 ∧ Kt (.fz (.bool true))
abbrev placeDL (x : Str × Int) : PyData := .list [.str x.1, .int x.2]
abbrev lineDL (L : Lin) : PyData := .list (L.map placeDL)
abbrev stdDL (S : Std) : PyData := .list (S.map fun l => .list (l.map .int))
theorem listed_line (L : Lin) : listed (lineD L) = lineDL L := by
  simp only [listed, listedAll_map, List.map_map]
  exact congrArg PyData.list (List.map_congr_left fun x _ => by simp [listed, listedAll_map])
theorem listed_ints (x : List Int) : listed (.tuple (x.map .int)) = .list (x.map .int) := by
  simp only [listed, listedAll_map, List.map_map]
  exact congrArg PyData.list (List.map_congr_left fun i _ => by simp [listed])
theorem listed_std (S : Std) : listed (stdD S) = stdDL S := by
  rw [listed, listedAll_map, List.map_map]
  exact congrArg PyData.list (List.map_congr_left fun x _ => listed_ints x)
theorem ln_lineL (L : Lin) : Ln (lineDL L) L := ⟨true, L.map placeDL, rfl, by rw [List.length_map], fun i h => by
  rw [getD_map z0 h]
  exact ⟨true, rfl⟩⟩
theorem st_stdL (S : Std) : St (stdDL S) S := ⟨true, _, rfl, by rw [List.length_map], fun i h => by
  rw [getD_map [] h]
  exact ⟨true, rfl⟩⟩
theorem deep_intsT (n : Nat) {l : List Int} (h : l.length < 100000) : Deep (n + 1) (.tuple (l.map .int)) := .tuple n _ (by rw [List.length_map]; exact h) fun d hd => by
  obtain ⟨i, _, rfl⟩ := List.mem_map.mp hd
  exact .int n i
theorem deep_line {L : Lin} (h5 : L.length ≤ 40) (hK : kindsOk L) : Deep 2 (lineD L) := .tuple 1 _ (by rw [List.length_map]; omega) fun d hd => by
  obtain ⟨x, hx, rfl⟩ := List.mem_map.mp hd
  refine .tuple 0 _ (by simp) fun e he => ?_
  simp at he
  rcases he with rfl | rfl
  · obtain ⟨i, hi, e⟩ := List.getElem_of_mem hx
    refine .str 0 _ (shaped_kind ?_)
    have := (hK i hi).1
    rw [List.getD_eq_getElem?_getD, List.getElem?_eq_getElem hi] at this
    rw [← e]
    exact this
  · exact .int 0 _
theorem deep_std {S : Std} (h1 : S.length ≤ 40) (h2 : S.flatten.length ≤ 40) : Deep 2 (stdD S) := .tuple 1 _ (by rw [List.length_map]; omega) fun d hd => by
  obtain ⟨x, hx, rfl⟩ := List.mem_map.mp hd
  refine deep_intsT 0 ?_
  have := (List.sublist_flatten_of_mem hx).length_le
  omega
theorem caps_nonneg {L : Lin} (h : kindsOk L) : 0 ≤ caps L := by
  have := sum_le (L := L) (N := List.replicate L.length 0) (by simp)
  induction L with
  | nil => exact Int.le_refl _
  | cons x L ih =>
    have h0 := (h 0 (by simp)).2
    have h1 := ih (fun i hi => by simpa using h (i + 1) (by simpa using hi)) (sum_le (L := L) (N := List.replicate L.length 0) (by simp))
    unfold caps at h1 ⊢
    rw [List.map_cons, List.sum_cons]
    have h0 : 1 ≤ x.2 := h0
    omega
end Kx
end
section
set_option maxHeartbeats 1000000
namespace Kx
open PySem PySem.Spec PyProof.Rows L2 Dl
theorem sorted_uniq : ∀ {a b : List Int}, a.Perm b → a.Pairwise (· ≤ ·) → b.Pairwise (· ≤ ·) → a = b
  | [], b, h, _, _ => (List.nil_perm.mp h).symm
  | x :: a, [], h, _, _ => absurd h.length_eq (by simp)
  | x :: a, y :: b, h, ha, hb => by
    have ha' := List.pairwise_cons.mp ha
    have hb' := List.pairwise_cons.mp hb
    have e : x = y := by
      have h1 : x ∈ y :: b := h.mem_iff.mp (by simp)
      have h2 : y ∈ x :: a := h.mem_iff.mpr (by simp)
      rcases List.mem_cons.mp h1 with e | h1
      · exact e
      · rcases List.mem_cons.mp h2 with e | h2
        · exact e.symm
        · have := hb'.1 x h1
          have := ha'.1 y h2
          omega
    subst e
    rw [sorted_uniq ((List.perm_cons x).mp h) ha'.2 hb'.2]
def insI (x : Int) : List Int → List Int
  | [] => [x]
  | y :: l => if x ≤ y then x :: y :: l else y :: insI x l
def sortI : List Int → List Int
  | [] => []
  | x :: l => insI x (sortI l)
theorem insI_perm (x : Int) : ∀ l, (insI x l).Perm (x :: l)
  | [] => .refl _
  | y :: l => by
    unfold insI
    split
    · exact .refl _
    · exact ((insI_perm x l).cons y).trans (.swap _ _ _)
theorem insI_sorted (x : Int) : ∀ {l : List Int}, l.Pairwise (· ≤ ·) → (insI x l).Pairwise (· ≤ ·)
  | [], _ => List.pairwise_singleton _ _
  | y :: l, h => by
    have h' := List.pairwise_cons.mp h
    unfold insI
    split
    · rename_i q
      exact List.pairwise_cons.mpr ⟨fun z hz => by
        rcases List.mem_cons.mp hz with e | hz
        · omega
        · have := h'.1 z hz
          omega, h⟩
    · rename_i q
      refine List.pairwise_cons.mpr ⟨fun z hz => ?_, insI_sorted x h'.2⟩
      rcases List.mem_cons.mp ((insI_perm x l).mem_iff.mp hz) with e | hz
      · omega
      · exact h'.1 z hz
theorem sortI_perm : ∀ l, (sortI l).Perm l
  | [] => .refl _
  | x :: l => (insI_perm x _).trans ((sortI_perm l).cons x)
theorem sortI_sorted : ∀ l, (sortI l).Pairwise (· ≤ ·)
  | [] => .nil
  | x :: l => insI_sorted x (sortI_sorted l)
theorem sortI_eq {js is : List Int} (h : js.Perm is) (hs : js.Pairwise (· ≤ ·)) : js = sortI is := sorted_uniq (h.trans (sortI_perm is).symm) hs (sortI_sorted is)
theorem sortI_len (l : List Int) : (sortI l).length = l.length := (sortI_perm l).length_eq
theorem take_same {α : Type} {l : List α} {i j : Nat} (h : min i l.length = min j l.length) : l.take i = l.take j := by
  rw [List.take_eq_take_iff]
  exact h
def slN {α : Type} (r : List α) (a b : Nat) : List α := (r.drop a).take (b - a)
theorem cut_nat (r : List Int) (a b : Nat) : Dl.cutD (r.map PyData.int) (some (a : Int)) (some (b : Int)) = (slN r a b).map .int := by
  unfold Dl.cutD slN
  rw [HT.sIx_nat, HT.sIx_nat, List.length_map, ← List.map_drop, ← List.map_take]
  congr 1
  by_cases q : a ≤ r.length
  · rw [Nat.min_eq_left q]
    refine take_same ?_
    rw [List.length_drop]
    omega
  · have e1 : min a r.length = r.length := by omega
    rw [e1, List.drop_of_length_le (Nat.le_refl _), List.drop_of_length_le (by omega), List.take_nil, List.take_nil]
def parkAt (L : Lin) (r N : List Int) (i : Nat) : List Int := if (L.getD i z0).1 = "yard" then sortI (slN r (N.take i).sum.toNat (N.take (i + 1)).sum.toNat) else slN r (N.take i).sum.toNat (N.take (i + 1)).sum.toNat
def parkS (L : Lin) (r N : List Int) : Std := (List.range L.length).map (parkAt L r N)
theorem parkAt_perm (L : Lin) (r N : List Int) (i : Nat) : (parkAt L r N i).Perm (slN r (N.take i).sum.toNat (N.take (i + 1)).sum.toNat) := by
  unfold parkAt
  split
  · exact sortI_perm _
  · exact .refl _
theorem takes_nonneg {L : Lin} {N : List Int} (h : fits L N) : ∀ i, 0 ≤ (N.take i).sum
  | 0 => Int.le_refl _
  | i + 1 => by
    have h1 := takes_nonneg h i
    by_cases q : i < N.length
    · rw [sum_take q]
      have := (h.2 i (by rw [← h.1]; exact q)).1
      omega
    · rw [List.take_of_length_le (by omega)] at h1 ⊢
      exact h1
theorem park_perm {L : Lin} {r N : List Int} (h : fits L N) : ∀ {i : Nat}, i ≤ L.length → ((List.range i).map (parkAt L r N)).flatten.Perm (r.take (N.take i).sum.toNat)
  | 0, _ => by
    show ([] : List Int).Perm _
    rw [List.take_zero]
    exact .refl _
  | i + 1, hi => by
    have h1 := park_perm (r := r) h (i := i) (by omega)
    have h2 := takes_nonneg h i
    have h3 := (h.2 i (by omega)).1
    have h4 := sum_take (N := N) (i := i) (by rw [h.1]; omega)
    rw [range_at, List.map_append, List.flatten_append]
    have e : (N.take (i + 1)).sum.toNat = (N.take i).sum.toNat + (N.getD i 0).toNat := by omega
    rw [e, List.take_add]
    refine h1.append ?_
    have h5 := parkAt_perm L r N i
    unfold slN at h5
    rw [e, Nat.add_sub_cancel_left] at h5
    simpa using h5
theorem park_all {L : Lin} {r N : List Int} (h : fits L N) (hs : N.sum = r.length) : (parkS L r N).flatten.Perm r := by
  have h1 := park_perm (r := r) h (Nat.le_refl L.length)
  rw [show L.length = N.length from h.1.symm, List.take_length, hs] at h1
  have e : ((r.length : Int)).toNat = r.length := by omega
  rw [e, List.take_length, h.1] at h1
  exact h1
theorem parkS_len (L : Lin) (r N : List Int) : (parkS L r N).length = L.length := by unfold parkS; rw [List.length_map, List.length_range]
theorem parkS_at {L : Lin} {r N : List Int} {i : Nat} (h : i < L.length) : (parkS L r N).getD i [] = parkAt L r N i := by
  unfold parkS
  rw [List.getD_eq_getElem?_getD, List.getElem?_map, List.getElem?_range h]
  rfl
/-- a line and a standing of it -/
structure Scn (L : Lin) (S : Std) : Prop where
  len : S.length = L.length
  nodup : S.flatten.Nodup
  nonneg : ∀ x ∈ S.flatten, 0 ≤ x ∧ x < 2 ^ 40
  room : ∀ i, i < L.length → ((S.getD i []).length : Int) ≤ (L.getD i z0).2
  yard : ∀ i, i < L.length → (L.getD i z0).1 = "yard" → (S.getD i []).Pairwise (· ≤ ·)
theorem scn_park {L : Lin} {r N : List Int} (h : fits L N) (hs : N.sum = r.length) (hn : r.Nodup) (h0 : ∀ x ∈ r, 0 ≤ x ∧ x < 2 ^ 40) : Scn L (parkS L r N) where
  len := parkS_len L r N
  nodup := (park_all h hs).nodup_iff.mpr hn
  nonneg := fun x hx => h0 x ((park_all h hs).mem_iff.mp hx)
  room := fun i hi => by
    rw [parkS_at hi]
    have h1 := (parkAt_perm L r N i).length_eq
    have h2 := sum_take (N := N) (i := i) (by rw [h.1]; exact hi)
    have h3 := h.2 i hi
    have h4 := takes_nonneg h i
    unfold slN at h1
    rw [List.length_take, List.length_drop] at h1
    omega
  yard := fun i hi e => by
    rw [parkS_at hi]
    unfold parkAt
    rw [if_pos e]
    exact sortI_sorted _
def phParkX : List PyData → (O → Prop) → Prop := fun ds Kt => ∃ (d : PyData) (L : Lin) (N r : List Int), ds = [d, .list (r.map .int), .list (N.map .int)] ∧ Ln d L ∧ fits L N ∧ L.length ≤ 40 ∧ kindsOk L ∧ r.length ≤ 40 ∧ N.sum = r.length ∧ Kt (.fz (stdD (parkS L r N)))
theorem nodup_at {r : List Int} (h : r.Nodup) {i j : Nat} {x : Int} (a : r[i]? = some x) (b : r[j]? = some x) : i = j := by
  obtain ⟨h1, e1⟩ := List.getElem?_eq_some_iff.mp a
  obtain ⟨h2, e2⟩ := List.getElem?_eq_some_iff.mp b
  exact (List.getElem_inj h).mp (e1.trans e2.symm)
end Kx
namespace Kx
open PySem PySem.Spec PyProof.Rows L2 Dl
theorem flat_ints (l : List Int) : (l.map PyData.int).all flatD = true := by
  rw [List.all_eq_true]
  intro d hd
  obtain ⟨n, _, rfl⟩ := List.mem_map.mp hd
  rfl
theorem inD_ints (t : Int) : ∀ l : List Int, Dl.inD (.int t) (l.map .int) = decide (t ∈ l)
  | [] => by simp [Dl.inD]
  | x :: l => by
    have h := inD_ints t l
    unfold Dl.inD at h ⊢
    rw [List.map_cons, List.any_cons, h]
    have e : PyData.eqv (.int x) (.int t) = decide (x = t) := rfl
    rw [e]
    by_cases q : x = t
    · subst q
      simp
    · have q2 : ¬ t = x := fun z => q z.symm
      simp [q, q2]
end Kx
end
section
set_option maxHeartbeats 1000000
namespace Kx
open PySem PySem.Spec PyProof.Rows L2 Dl
def phCount : Nat → List PyData → (O → Nat → Prop) → Prop := fun m ds Kt => ∃ (d : PyData) (L : Lin) (most : Int), ds = [d, .int most] ∧ Ln d L ∧ L.length ≤ 40 ∧ kindsOk L ∧ 0 ≤ most ∧ most ≤ 40 ∧ m < 2 ^ 58 ∧ ∀ c : Nat, (c : Int) ≤ most → (c : Int) ≤ caps L → Kt (.fz (.int c)) (m + 2)
def phCarts : List PyData → (O → Prop) → Prop := fun ds Kt => ∃ e S, ds = [e] ∧ St e S ∧ S.flatten.length ≤ 40 ∧ Kt (.own ((sortI S.flatten).map .int))
theorem cut_from {α : Type} (f : α → PyData) (l : List α) (i : Nat) : Dl.cutD (l.map f) (some (i : Int)) none = (l.drop i).map f := by
  unfold Dl.cutD
  rw [HT.sIx_nat, HT.sIx_none, List.length_map, ← List.map_drop, ← List.map_take]
  congr 1
  by_cases q : i ≤ l.length
  · rw [Nat.min_eq_left q, List.take_of_length_le (by rw [List.length_drop]; exact Nat.le_refl _)]
  · rw [Nat.min_eq_right (by omega), List.drop_of_length_le (Nat.le_refl _), List.drop_of_length_le (by omega), List.take_nil]
theorem ixN_last {n : Nat} (h : 0 < n) : ixN n (-1) = some (n - 1) := by
  unfold ixN
  rw [if_neg (by decide), if_pos (by omega)]
  congr 1
  omega
theorem atI_last {α : Type} {l : List α} (d : α) (h : 0 < l.length) : atI l (-1) = some (l.getD (l.length - 1) d) := by
  unfold atI
  rw [ixN_last h]
  have hl : l.length - 1 < l.length := by omega
  show l[l.length - 1]? = _
  rw [List.getD_eq_getElem?_getD, List.getElem?_eq_getElem hl]
  rfl
end Kx
end
section
set_option maxHeartbeats 1000000
namespace Kx
open PySem PySem.Spec PyProof.Rows L2 Dl
theorem natsD_app (l k : List Nat) : natsD l ++ natsD k = natsD (l ++ k) := by
  unfold natsD
  rw [List.map_append]
theorem natsD_len (l : List Nat) : (natsD l).length = l.length := by
  unfold natsD
  rw [List.length_map]
def phTrains : List PyData → (O → Prop) → Prop := fun ds Kt => ∃ e S, ds = [e] ∧ St e S ∧ S.flatten.length ≤ 40 ∧ Kt (.own ((sortI S.flatten).map .int))
/-- where a train stands: the first place that holds it -/
def AtPl (S : Std) (t : Int) (i : Nat) : Prop := i < S.length ∧ t ∈ S.getD i [] ∧ ∀ j, j < i → t ∉ S.getD j []
def phSpot : List PyData → (O → Prop) → Prop := fun ds Kt => ∃ e S t i, ds = [e, .int t] ∧ St e S ∧ S.length ≤ 40 ∧ AtPl S t i ∧ Kt (.fz (.int (i : Nat)))
def hitsT (S : Std) (t : Int) (k : Nat) : List Nat := (List.range k).filter fun j => decide (t ∈ S.getD j [])
theorem hits_at (S : Std) (t : Int) (k : Nat) : hitsT S t (k + 1) = hitsT S t k ++ (if t ∈ S.getD k [] then [k] else []) := by
  unfold hitsT
  rw [List.range_succ, List.filter_append]
  refine congrArg (List.filter _ (List.range k) ++ ·) ?_
  show (match decide (t ∈ S.getD k []) with | true => [k] | false => []) = _
  by_cases q : t ∈ S.getD k []
  · rw [if_pos q, decide_eq_true q]
  · rw [if_neg q, decide_eq_false q]
theorem hits_len (S : Std) (t : Int) : ∀ k, (hitsT S t k).length ≤ k := fun k => by
  unfold hitsT
  have := List.length_filter_le (fun j => decide (t ∈ S.getD j [])) (List.range k)
  rw [List.length_range] at this
  exact this
theorem hits_low {S : Std} {t : Int} {i : Nat} (h : AtPl S t i) : ∀ k, k ≤ i → hitsT S t k = []
  | 0, _ => rfl
  | k + 1, hk => by rw [hits_at, hits_low h k (by omega), if_neg (h.2.2 k (by omega))]; rfl
theorem hits_first {S : Std} {t : Int} {i : Nat} (h : AtPl S t i) : ∀ k, i < k → ∃ r, hitsT S t k = i :: r
  | k + 1, hk => by
    rw [hits_at]
    by_cases q : k = i
    · rw [q, hits_low h i (Nat.le_refl _), if_pos h.2.1]
      exact ⟨[], rfl⟩
    · obtain ⟨r, e⟩ := hits_first h k (by omega)
      rw [e]
      exact ⟨_, rfl⟩
theorem atPl_of {S : Std} {t : Int} (h : t ∈ S.flatten) : ∃ i, AtPl S t i := by
  obtain ⟨l, hl, ht⟩ := List.mem_flatten.mp h
  obtain ⟨n, hn, e⟩ := List.getElem_of_mem hl
  have hn2 : t ∈ S.getD n [] := by
    rw [List.getD_eq_getElem?_getD, List.getElem?_eq_getElem hn]
    show t ∈ S[n]
    rw [e]
    exact ht
  have low : ∀ m, m ≤ n → (∃ i, AtPl S t i) ∨ ∀ j, j < m → t ∉ S.getD j [] := fun m => by
    induction m with
    | zero => exact fun _ => .inr fun j hj => absurd hj (Nat.not_lt_zero _)
    | succ m ih =>
      intro hm
      rcases ih (by omega) with a | a
      · exact .inl a
      · by_cases q : t ∈ S.getD m []
        · exact .inl ⟨m, by omega, q, a⟩
        · refine .inr fun j hj => ?_
          by_cases e : j = m
          · rw [e]; exact q
          · exact a j (by omega)
  rcases low n (Nat.le_refl _) with a | a
  · exact a
  · exact ⟨n, hn, hn2, a⟩
theorem ok_app {a b : Str} (ha : PyData.strOk a = true) (hb : PyData.strOk b = true) : PyData.strOk (a ++ b) = true := by
  unfold PyData.strOk at *
  show (a.cps ++ b.cps).all _ = true
  rw [Array.all_append, ha, hb]
  rfl
theorem ok_of (s : String) : PyData.strOk (Str.ofString s) = true := by
  rw [Str.ofString_eq_toList]
  unfold PyData.strOk
  rw [List.all_toArray, List.all_eq_true]
  intro n hn
  obtain ⟨c, _, rfl⟩ := List.mem_map.mp hn
  refine decide_eq_true ?_
  have h := c.valid
  unfold UInt32.isValidChar Nat.isValidChar at h
  show c.val.toNat < 0x110000
  omega
theorem ok_join (sep : Str) (h : PyData.strOk sep = true) : ∀ ts : List Str, (∀ t ∈ ts, PyData.strOk t = true) → PyData.strOk (Str.join sep ts) = true
  | [], _ => by show PyData.strOk Str.empty = true; decide +kernel
  | [x], hx => hx x (by simp)
  | x :: y :: r, hx => ok_app (ok_app (hx x (by simp)) h) (ok_join sep h (y :: r) fun t ht => hx t (by simp [ht]))
theorem ok_list {ts : List Str} (h : ∀ t ∈ ts, PyData.strOk t = true) : PyData.strOk (listText ts) = true := by
  rw [listText_eq_join]
  exact ok_app (ok_app (ok_of _) (ok_join _ (ok_of _) ts h)) (ok_of _)
theorem ok_tup {ts : List Str} (h : ∀ t ∈ ts, PyData.strOk t = true) : PyData.strOk (tupleText ts) = true := by
  unfold tupleText
  exact ok_app (ok_app (ok_of _) (ok_join _ (ok_of _) ts h)) (ok_of _)
mutual
def nodes : PyData → Nat
  | .list xs => nodesAll xs + 1
  | .tuple xs => nodesAll xs + 1
  | _ => 1
def nodesAll : List PyData → Nat
  | [] => 0
  | x :: xs => nodes x + nodesAll xs
end
mutual
/-- numbers below 2 ^ 64, the two kinds, nests of them -/
def smallD : PyData → Bool
  | .int i => decide (i.natAbs < 2 ^ 64)
  | .str x => decide (x = "yard") || decide (x = "track")
  | .list xs => smallAll xs
  | .tuple xs => smallAll xs
  | .none => true
  | .bool _ => true
  | .dict _ => false
def smallAll : List PyData → Bool
  | [] => true
  | x :: xs => smallD x && smallAll xs
end
structure SmallOk (d : PyData) : Prop where
  len : d.shown.length + 2 ≤ 100 * nodes d
  ok : PyData.strOk d.shown = true
  sh : d.showable = true
  nd : d.hasDict = false
theorem log_small {i : Int} (h : i.natAbs < 2 ^ 64) : i.natAbs.log2 < 64 := by
  by_cases z : i.natAbs = 0
  · rw [z]; decide
  · exact (Nat.log2_lt z).mpr h
mutual
theorem small_ok : ∀ d : PyData, smallD d = true → SmallOk d
  | .int i, h => by
    have hi : i.natAbs < 2 ^ 64 := of_decide_eq_true h
    have hl := log_small hi
    refine ⟨?_, ok_of _, decide_eq_true (by omega), rfl⟩
    have := int_text_length_le (a := i) (k := 64) (by omega) hl
    have e : (PyData.int i).shown.length = (toString i).length := PySem.ofString_length _
    rw [e]
    show _ ≤ 100 * 1
    omega
  | .str x, h => by
    have hx : x = "yard" ∨ x = "track" := by
      have := Bool.or_eq_true_iff.mp h
      rcases this with q | q
      · exact .inl (of_decide_eq_true q)
      · exact .inr (of_decide_eq_true q)
    rcases hx with rfl | rfl
    · exact ⟨by decide +kernel, by decide +kernel, rfl, rfl⟩
    · exact ⟨by decide +kernel, by decide +kernel, rfl, rfl⟩
  | .none, _ => ⟨by decide +kernel, by decide +kernel, rfl, rfl⟩
  | .bool b, _ => by cases b <;> exact ⟨by decide +kernel, by decide +kernel, rfl, rfl⟩
  | .dict _, h => by cases h
  | .list xs, h => by
    obtain ⟨h1, h2, h3, h4, h5⟩ := small_all xs h
    refine ⟨?_, ok_list h2, h3, h4⟩
    have := listText_len_le (PyData.shownAll xs)
    show (listText (PyData.shownAll xs)).length + 2 ≤ 100 * (nodesAll xs + 1)
    omega
  | .tuple xs, h => by
    obtain ⟨h1, h2, h3, h4, h5⟩ := small_all xs h
    refine ⟨?_, ok_tup h2, h3, h4⟩
    have := tupleText_len_le (PyData.shownAll xs)
    show (tupleText (PyData.shownAll xs)).length + 2 ≤ 100 * (nodesAll xs + 1)
    omega
theorem small_all : ∀ xs : List PyData, smallAll xs = true → ((PyData.shownAll xs).map (·.length)).sum + 2 * (PyData.shownAll xs).length ≤ 100 * nodesAll xs ∧ (∀ t ∈ PyData.shownAll xs, PyData.strOk t = true) ∧ PyData.showableAll xs = true ∧ PyData.hasDictAll xs = false ∧ True
  | [], _ => ⟨Nat.le_refl _, fun t h => absurd h (by simp [PyData.shownAll]), by simp [PyData.showableAll], by simp [PyData.hasDictAll], trivial⟩
  | x :: xs, h => by
    have hh := Bool.and_eq_true_iff.mp (show (smallD x && smallAll xs) = true by simpa [smallAll] using h)
    have a := small_ok x hh.1
    obtain ⟨h1, h2, h3, h4, _⟩ := small_all xs hh.2
    have e : PyData.shownAll (x :: xs) = x.shown :: PyData.shownAll xs := by simp [PyData.shownAll]
    rw [e]
    refine ⟨?_, ?_, by simp [PyData.showableAll, a.sh, h3], by simp [PyData.hasDictAll, a.nd, h4], trivial⟩
    · have := a.len
      have e2 : nodesAll (x :: xs) = nodes x + nodesAll xs := by simp [nodesAll]
      rw [e2, List.map_cons, List.sum_cons, List.length_cons]
      omega
    · intro t ht
      rcases List.mem_cons.mp ht with rfl | ht
      · exact a.ok
      · exact h2 t ht
end
theorem depthAll_le {n : Nat} : ∀ {ds : List PyData}, (∀ d ∈ ds, d.depth ≤ n) → PyData.depthAll ds ≤ n
  | [], _ => by simp [PyData.depthAll]
  | d :: ds, h => by
    have h1 := h d List.mem_cons_self
    have h2 := depthAll_le fun e he => h e (List.mem_cons_of_mem d he)
    simp only [PyData.depthAll]
    omega
theorem layAll {ds : List PyData} : (∀ d ∈ ds, d.canLay0 = true) → PyData.canLayAll0 ds = true := fun h => by
  induction ds with
  | nil => simp [PyData.canLayAll0]
  | cons d ds ih =>
    simp only [PyData.canLayAll0]
    rw [h d List.mem_cons_self, ih fun e he => h e (List.mem_cons_of_mem d he)]
    rfl
theorem deep_lay {n : Nat} {d : PyData} (h : Deep n d) : d.canLay0 = true ∧ d.depth ≤ n := by
  induction h with
  | int n i => exact ⟨rfl, Nat.zero_le _⟩
  | bool n b => exact ⟨rfl, Nat.zero_le _⟩
  | str n x hx => exact ⟨(Bool.and_eq_true_iff.mp hx).1, Nat.zero_le _⟩
  | none n => exact ⟨rfl, Nat.zero_le _⟩
  | list n ds hl hd ih => exact ⟨layAll fun d h => (ih d h).1, Nat.succ_le_succ (depthAll_le fun d h => (ih d h).2)⟩
  | tuple n ds hl hd ih => exact ⟨layAll fun d h => (ih d h).1, Nat.succ_le_succ (depthAll_le fun d h => (ih d h).2)⟩
theorem small_map {α : Type} {f : α → PyData} : ∀ {l : List α}, (∀ x ∈ l, smallD (f x) = true) → smallAll (l.map f) = true
  | [], _ => by simp [smallAll]
  | x :: l, h => by
    rw [List.map_cons, smallAll, h x List.mem_cons_self, small_map fun y hy => h y (List.mem_cons_of_mem x hy)]
    rfl
theorem nodes_const {α : Type} {f : α → PyData} {c : Nat} (h : ∀ x, nodes (f x) = c) : ∀ l : List α, nodesAll (l.map f) = c * l.length
  | [] => rfl
  | x :: l => by
    rw [List.map_cons, nodesAll, h x, nodes_const h l, List.length_cons, Nat.mul_succ, Nat.add_comm]
theorem nodes_std : ∀ S : Std, nodesAll (S.map fun l => PyData.tuple (l.map .int)) = S.length + S.flatten.length
  | [] => rfl
  | l :: S => by
    have e : nodes (.tuple (l.map PyData.int)) = l.length + 1 := by
      rw [nodes, nodes_const (c := 1) (fun _ => rfl) l, Nat.one_mul]
    rw [List.map_cons, nodesAll, e, nodes_std S, List.flatten_cons, List.length_append, List.length_cons]
    omega
theorem small_ints {l : List Int} (h : ∀ x ∈ l, 0 ≤ x ∧ x < 2 ^ 40) : smallAll (l.map .int) = true := small_map fun x hx => by
  have := h x hx
  exact decide_eq_true (by omega)
theorem small_line {L : Lin} (hK : kindsOk L) (h4 : sizesLe L 1000000) : smallD (lineD L) = true := by
  show smallAll (L.map placeD) = true
  refine small_map fun x hx => ?_
  obtain ⟨i, hi, e⟩ := List.getElem_of_mem hx
  have e2 : L.getD i z0 = x := by rw [List.getD_eq_getElem?_getD, List.getElem?_eq_getElem hi]; exact e
  have h1 := hK i hi
  have h2 := h4 i hi
  rw [e2] at h1 h2
  show (smallD (.str x.1) && (smallD (.int x.2) && true)) = true
  have a : smallD (.str x.1) = true := by
    rcases h1.1 with q | q
    · rw [q]; decide +kernel
    · rw [q]; decide +kernel
  have b : smallD (.int x.2) = true := decide_eq_true (by omega)
  rw [a, b]
  rfl
theorem small_std {S : Std} (h : ∀ x ∈ S.flatten, 0 ≤ x ∧ x < 2 ^ 40) : smallD (stdD S) = true := by
  show smallAll (S.map fun l => PyData.tuple (l.map .int)) = true
  refine small_map fun l hl => ?_
  exact small_ints fun x hx => h x (List.mem_flatten.mpr ⟨l, hl, hx⟩)
theorem small_scene {L : Lin} {S : Std} (hS : Scn L S) (h4 : sizesLe L 1000000) (hK : kindsOk L) : smallD (.list [lineD L, stdD S]) = true := by
  show (smallD (lineD L) && (smallD (stdD S) && true)) = true
  rw [small_line hK h4, small_std hS.nonneg]
  rfl
theorem nodes_scene (L : Lin) (S : Std) : nodes (.list [lineD L, stdD S]) = 3 + 3 * L.length + S.length + S.flatten.length := by
  show nodes (lineD L) + (nodes (stdD S) + 0) + 1 = _
  have e1 : nodes (lineD L) = 3 * L.length + 1 := by
    show nodesAll (L.map placeD) + 1 = _
    rw [nodes_const (c := 3) (fun _ => rfl) L]
  have e2 : nodes (stdD S) = S.length + S.flatten.length + 1 := congrArg (· + 1) (nodes_std S)
  omega
theorem repr_ok {n : Nat} {d : PyData} (h : smallD d = true) (hn : nodes d ≤ 100000) (hd : Deep n d) (hd2 : n ≤ 60) (hi : isDisplay d = true) : ReprOk d := by
  have s := small_ok d h
  have z := sizeLine_eq
  have l := s.len
  exact ⟨hi, s.sh, s.nd, Nat.le_trans (deep_lay hd).2 hd2, by omega⟩
theorem shaped_shown {d : PyData} (h : smallD d = true) : SeqAt.shaped (.str d.shown) = true := Bool.and_eq_true_iff.mpr ⟨(small_ok d h).ok, rfl⟩
theorem deep_scene {L : Lin} {S : Std} (hS : Scn L S) (h5 : L.length ≤ 40) (hK : kindsOk L) (h : S.flatten.length ≤ 40) : Deep 3 (.list [lineD L, stdD S]) := .list 2 _ (by simp) fun x he => by
  simp at he
  rcases he with rfl | rfl
  · exact deep_line h5 hK
  · exact deep_std (by rw [hS.len]; exact h5) h
theorem repr_scene {L : Lin} {S : Std} (hS : Scn L S) (h5 : L.length ≤ 40) (h4 : sizesLe L 1000000) (hK : kindsOk L) (h : S.flatten.length ≤ 40) : ReprOk (.list [lineD L, stdD S]) :=
  repr_ok (small_scene hS h4 hK) (by rw [nodes_scene, hS.len]; omega) (deep_scene hS h5 hK h) (by decide) rfl
theorem shown_scene {L : Lin} {S : Std} (hS : Scn L S) (h4 : sizesLe L 1000000) (hK : kindsOk L) : SeqAt.shaped (.str (PyData.list [lineD L, stdD S]).shown) = true := shaped_shown (small_scene hS h4 hK)
end Kx
end
section
set_option maxHeartbeats 1000000
namespace Kx
open PySem PySem.Spec PyProof.Rows L2 Dl
def isR (s : Str) : Bool := decide (s = "right")
def nbT (p : Int) (s : Str) : Int := if isR s = true then p + 1 else p - 1
def roomB (L : Lin) (S : Std) (q : Int) : Bool := (decide (0 ≤ q) && decide (q < L.length)) && decide (((S.getD q.toNat []).length : Int) < (L.getD q.toNat z0).2)
def endT (S : Std) (i : Nat) (s : Str) : Int := if isR s = true then (S.getD i []).getD ((S.getD i []).length - 1) 0 else (S.getD i []).getD 0 0
def leaveB (L : Lin) (S : Std) (i : Nat) (t : Int) (s : Str) : Bool := decide ((L.getD i z0).1 = "yard") || decide (t = endT S i s)
def canB (L : Lin) (S : Std) (i : Nat) (t : Int) (s : Str) : Bool := roomB L S (nbT i s) && leaveB L S i t s
/-- the place of a train that stands on the line -/
def plT (S : Std) (t : Int) : Nat := (hitsT S t S.length).headD 0
theorem pl_of {S : Std} {t : Int} {i : Nat} (h : AtPl S t i) : plT S t = i := by
  obtain ⟨r, e⟩ := hits_first h S.length h.1
  unfold plT
  rw [e]
  rfl
def phPair : List PyData → (O → Prop) → Prop := fun ds Kt => ∃ xs, ds = [.tuple xs] ∧ Kt (.fz (.tuple xs))
theorem ln_at {d : PyData} {L : Lin} {i : Nat} (h : Ln d L) (hi : i < L.length) : ∃ k ps k', itemsOf d = some (k, ps) ∧ ps.length = L.length ∧ itemsOf (ps.getD i .none) = some (k', [.str (L.getD i z0).1, .int (L.getD i z0).2]) := by
  obtain ⟨k, ps, h1, h2, h3⟩ := h
  obtain ⟨k', h4⟩ := h3 i hi
  exact ⟨k, ps, k', h1, h2, h4⟩
end Kx
end
section
set_option maxHeartbeats 1000000
namespace Kx
open PySem PySem.Spec PyProof.Rows L2 Dl
theorem getD_mem2 {α : Type} {l : List α} {i : Nat} (d : α) (h : i < l.length) : l.getD i d ∈ l := by
  rw [List.getD_eq_getElem?_getD, List.getElem?_eq_getElem h]
  exact List.getElem_mem h
theorem std_split {S : Std} {i : Nat} (h : i < S.length) : S.flatten = (S.take i).flatten ++ (S.getD i [] ++ (S.drop (i + 1)).flatten) := by
  have e : S = S.take i ++ (S.getD i [] :: S.drop (i + 1)) := by
    have e1 := List.take_append_drop i S
    have e2 : S.drop i = S.getD i [] :: S.drop (i + 1) := by
      rw [List.drop_eq_getElem_cons h, List.getD_eq_getElem?_getD, List.getElem?_eq_getElem h]
      rfl
    rw [← e2, e1]
  conv => lhs; rw [e]
  rw [List.flatten_append, List.flatten_cons]
end Kx
end
section
set_option maxHeartbeats 4000000
namespace Kx
open PySem PySem.Spec PyProof.Rows L2 Dl
abbrev Row : Type := List (Int × Str)
end Kx
end
section
set_option maxHeartbeats 4000000
namespace Kx
open PySem PySem.Spec PyProof.Rows L2 Dl
def topS (i : Nat) : Stmt := PySem.Challenge.pw_passyards_k23_reversed_pairs.main.body.getD i (.Pass ⟨0, 0, 0, 0⟩)
abbrev s_own_pair : Stmt := topS 5
theorem sc_own_pair : FnScope ["pair"] ["pair"] (defScope s_own_pair) := ⟨rfl, rfl, rfl, by decide +kernel, rfl, by decide +kernel, by decide +kernel⟩
abbrev s_trains : Stmt := topS 7
theorem sc_trains : FnScope ["standing", "held", "train"] ["standing"] (defScope s_trains) := ⟨rfl, rfl, rfl, by decide +kernel, rfl, by decide +kernel, by decide +kernel⟩
abbrev s_check_trains : Stmt := topS 9
theorem sc_check_trains : FnScope ["one", "other"] ["one", "other"] (defScope s_check_trains) := ⟨rfl, rfl, rfl, by decide +kernel, rfl, by decide +kernel, by decide +kernel⟩
abbrev s_ranks_in : Stmt := topS 11
theorem sc_ranks_in : FnScope ["line", "standing", "place", "held", "at", "train"] ["line", "standing"] (defScope s_ranks_in) := ⟨rfl, rfl, rfl, by decide +kernel, rfl, by decide +kernel, by decide +kernel⟩
abbrev s_reversed_pairs : Stmt := topS 12
theorem sc_reversed_pairs : FnScope ["line", "one", "other", "mine", "its", "known", "at", "a", "b"] ["line", "one", "other"] (defScope s_reversed_pairs) := ⟨rfl, rfl, rfl, by decide +kernel, rfl, by decide +kernel, by decide +kernel⟩
abbrev s_cell_at : Stmt := topS 14
theorem sc_cell_at : FnScope ["_law_script", "_law_k"] ["_law_script", "_law_k"] (defScope s_cell_at) := ⟨rfl, rfl, rfl, by decide +kernel, rfl, by decide +kernel, by decide +kernel⟩
abbrev s_box : Stmt := topS 15
theorem sc_box : FnScope ["_law_script", "_law_k", "_law_core"] ["_law_script", "_law_k"] (defScope s_box) := ⟨rfl, rfl, rfl, by decide +kernel, rfl, by decide +kernel, by decide +kernel⟩
abbrev s_take : Stmt := topS 16
theorem sc_take : FnScope ["_law_box_here", "_law_span", "_law_found", "_law_once", "_law_twice"] ["_law_box_here", "_law_span"] (defScope s_take) := ⟨rfl, rfl, rfl, by decide +kernel, rfl, by decide +kernel, by decide +kernel⟩
abbrev s_of : Stmt := topS 17
theorem sc_of : FnScope ["_law_box_here", "_law_some"] ["_law_box_here", "_law_some"] (defScope s_of) := ⟨rfl, rfl, rfl, by decide +kernel, rfl, by decide +kernel, by decide +kernel⟩
abbrev s_same : Stmt := topS 18
theorem sc_same : FnScope ["_law_found", "_law_due_here", "_law_a", "_law_b"] ["_law_found", "_law_due_here"] (defScope s_same) := ⟨rfl, rfl, rfl, by decide +kernel, rfl, by decide +kernel, by decide +kernel⟩
abbrev s_lists : Stmt := topS 19
theorem sc_lists : FnScope ["_law_part", "_law_piece"] ["_law_part"] (defScope s_lists) := ⟨rfl, rfl, rfl, by decide +kernel, rfl, by decide +kernel, by decide +kernel⟩
abbrev s_strewn : Stmt := topS 20
theorem sc_strewn : FnScope ["_law_box_here", "_law_some", "_law_left", "_law_found"] ["_law_box_here", "_law_some"] (defScope s_strewn) := ⟨rfl, rfl, rfl, by decide +kernel, rfl, by decide +kernel, by decide +kernel⟩
abbrev s_rail : Stmt := topS 21
theorem sc_rail : FnScope ["_law_box_here", "_law_most", "_law_top", "_law_total_here", "_law_bias", "_law_found", "_law_at", "_law_label"] ["_law_box_here", "_law_most", "_law_top"] (defScope s_rail) := ⟨rfl, rfl, rfl, by decide +kernel, rfl, by decide +kernel, by decide +kernel⟩
abbrev s_total : Stmt := topS 22
theorem sc_total : FnScope ["_law_rail_here", "_law_label", "_law_top"] ["_law_rail_here"] (defScope s_total) := ⟨rfl, rfl, rfl, by decide +kernel, rfl, by decide +kernel, by decide +kernel⟩
abbrev s_ids : Stmt := topS 23
theorem sc_ids : FnScope ["_law_box_here", "_law_count_here", "_law_gap", "_law_top", "_law_found", "_law_at"] ["_law_box_here", "_law_count_here"] (defScope s_ids) := ⟨rfl, rfl, rfl, by decide +kernel, rfl, by decide +kernel, by decide +kernel⟩
abbrev s_numbers : Stmt := topS 24
theorem sc_numbers : FnScope ["_law_box_here", "_law_rail_here", "_law_count_here", "_law_found", "_law_turn", "_law_at", "_law_k", "_law_label", "_law_top"] ["_law_box_here", "_law_rail_here", "_law_count_here"] (defScope s_numbers) := ⟨rfl, rfl, rfl, by decide +kernel, rfl, by decide +kernel, by decide +kernel⟩
abbrev s_parked : Stmt := topS 25
theorem sc_parked : FnScope ["_law_rail_here", "_law_row_up", "_law_numbers_here", "_law_found", "_law_at", "_law_label", "_law_top", "_law_some", "_law_part"] ["_law_rail_here", "_law_row_up", "_law_numbers_here"] (defScope s_parked) := ⟨rfl, rfl, rfl, by decide +kernel, rfl, by decide +kernel, by decide +kernel⟩
abbrev s_count : Stmt := topS 26
theorem sc_count : FnScope ["_law_box_here", "_law_rail_here", "_law_most", "_law_full"] ["_law_box_here", "_law_rail_here", "_law_most"] (defScope s_count) := ⟨rfl, rfl, rfl, by decide +kernel, rfl, by decide +kernel, by decide +kernel⟩
abbrev s_scene : Stmt := topS 27
theorem sc_scene : FnScope ["_law_box_here", "_law_most", "_law_top", "_law_carts_here", "_law_rail_here", "_law_count_here"] ["_law_box_here", "_law_most", "_law_top", "_law_carts_here"] (defScope s_scene) := ⟨rfl, rfl, rfl, by decide +kernel, rfl, by decide +kernel, by decide +kernel⟩
abbrev s_carts : Stmt := topS 28
theorem sc_carts : FnScope ["_law_park", "_law_found", "_law_some"] ["_law_park"] (defScope s_carts) := ⟨rfl, rfl, rfl, by decide +kernel, rfl, by decide +kernel, by decide +kernel⟩
abbrev s_spot : Stmt := topS 29
theorem sc_spot : FnScope ["_law_park", "_law_cart", "_law_at", "_law_some"] ["_law_park", "_law_cart"] (defScope s_spot) := ⟨rfl, rfl, rfl, by decide +kernel, rfl, by decide +kernel, by decide +kernel⟩
abbrev s_ahead : Stmt := topS 30
theorem sc_ahead : FnScope ["_law_rail_here", "_law_park", "_law_first", "_law_second", "_law_here", "_law_there"] ["_law_rail_here", "_law_park", "_law_first", "_law_second"] (defScope s_ahead) := ⟨rfl, rfl, rfl, by decide +kernel, rfl, by decide +kernel, by decide +kernel⟩
abbrev s_due : Stmt := topS 31
theorem sc_due : FnScope ["_law_rail_here", "_law_park", "_law_goal", "_law_found", "_law_every", "_law_at", "_law_first", "_law_second"] ["_law_rail_here", "_law_park", "_law_goal"] (defScope s_due) := ⟨rfl, rfl, rfl, by decide +kernel, rfl, by decide +kernel, by decide +kernel⟩
abbrev s_is_refused : Stmt := topS 32
theorem sc_is_refused : FnScope ["_law_rail_here", "_law_park", "_law_goal", "_law_caught", "error"] ["_law_rail_here", "_law_park", "_law_goal"] (defScope s_is_refused) := ⟨rfl, rfl, rfl, by decide +kernel, rfl, by decide +kernel, by decide +kernel⟩
abbrev s_right : Stmt := topS 33
theorem sc_right : FnScope ["_law_box_here", "_law_turn", "_law_rail_here", "_law_park", "_law_every", "_law_kept", "_law_goal", "_law_due_here", "_law_soft", "_law_told", "_law_odd", "_law_cart", "_law_some"] ["_law_box_here"] (defScope s_right) := ⟨rfl, rfl, rfl, by decide +kernel, rfl, by decide +kernel, by decide +kernel⟩
abbrev s_law : Stmt := topS 34
theorem sc_law : FnScope ["_law_script", "_law_k"] ["_law_script"] (defScope s_law) := ⟨rfl, rfl, rfl, by decide +kernel, rfl, by decide +kernel, by decide +kernel⟩
structure Blt (mg : Str → Option Value) : Prop where
  len : mg "len" = none
  abs : mg "abs" = none
  sum : mg "sum" = none
  sorted : mg "sorted" = none
  all : mg "all" = none
  any : mg "any" = none
  list : mg "list" = none
  tuple : mg "tuple" = none
  int : mg "int" = none
  min : mg "min" = none
  max : mg "max" = none
  range : mg "range" = none
  zip : mg "zip" = none
  enumerate : mg "enumerate" = none
  isinstance : mg "isinstance" = none
  bool : mg "bool" = none
  str : mg "str" = none
  repr : mg "repr" = none
  set : mg "set" = none
  LookupError : mg "LookupError" = none
  RuntimeError : mg "RuntimeError" = none
  ValueError : mg "ValueError" = none
  OverflowError : mg "OverflowError" = none
  reversed : mg "reversed" = none
section
variable {P : Program} {w : World} {K : PySem.W.Frag} {mg : Str → Option Value} {base : Heap}
theorem can_take (D : At K mg "_law_take" s_take ["_law_box_here", "_law_span"]) : Can P w K mg base 1 "_law_take" ["_law_box_here", "_law_span"] (spB K 1 phTake) := by
  obtain ⟨f, fd, Fd, h2, h3⟩ := D
  refine ⟨f, fd, h2, Fd.kp, h3, Fd.ok sc_take (fun vs H Q E h => ?_) (fun cdv A outer s H vs Q E hr h => ?_)⟩
  · obtain ⟨G0, p, m, ds, vr, F, Kt, rfl, e1, e2, _⟩ := h
    rw [List.length_cons, e1, e2]
    rfl
  · obtain ⟨G0, p, m, ds, vr, F, Kt, rfl, e1, e2, r, ⟨span, rfl, z1, z2, z3, ph⟩, q⟩ := h
    obtain ⟨v1, rfl⟩ : ∃ v1, vr = [v1] := by
      match vr, e1 with
      | [v1], _ => exact ⟨v1, rfl⟩
    have r1 : R K G0 H ((v1, .fz (.int span)) :: (V.ref p, .box p m) :: F) := r.perm (.swap _ _ _)
    obtain rfl := R.int r1
    obtain ⟨_, a, b, c, hp, a0, b0, b1, c0, c1, wr⟩ := r1.tail.draw
    refine ⟨_, pss_cons (ps_if (pt_cmpR op_gt (pe_ix ix_list (pv 0) pe_int (fun _ _ => rfl)) pe_int (nomark _))
        (pss_cons (ps_set (i := 2) sc_take.nd rfl (.inl rfl) (pe_op op_mod (pe_ix ix_list (pv 0) pe_int (fun _ _ => rfl)) (pv 1)))
          (pss_cons (ps_asg (pe_op op_fdiv (pe_ix ix_list (pv 0) pe_int (fun _ _ => rfl)) (pv 1)) (pg_sub (pv 0) pe_int set_list)) (pss_one (ps_ret (pv 2))))) pss_nil)
      (pss_cons (ps_asg (pe_op op_add (pe_ix ix_list (pv 0) pe_int (fun _ _ => rfl)) pe_int) (pg_sub (pv 0) pe_int set_list))
      (pss_cons (ps_set (i := 3) sc_take.nd rfl (.inl rfl) (pe_op op_mod (pe_op op_mul (pe_op op_add (pe_ix ix_list (pv 0) pe_int (fun _ _ => rfl)) (pe_op op_mul pe_int (pe_ix ix_list (pv 0) pe_int (fun _ _ => rfl)))) (pe_op op_add pe_int (pe_ix ix_list (pv 0) pe_int (fun _ _ => rfl)))) pe_int))
      (pss_cons (ps_set (i := 4) sc_take.nd rfl (.inl rfl) (pe_op op_mod (pe_op op_mul (pe_op op_add (pe_op op_add (pv 3) (pe_ix ix_list (pv 0) pe_int (fun _ _ => rfl))) (pe_op op_fdiv (pe_ix ix_list (pv 0) pe_int (fun _ _ => rfl)) pe_int)) (pe_op op_add (pe_op op_mod (pv 3) pe_int) pe_int)) pe_int))
      (pss_one (ps_ret (pe_op op_mod (pe_op op_fdiv (pe_op op_mod (pe_op op_add (pe_op op_mul (pv 4) pe_int) (pv 3)) pe_int) pe_int) (pv 1))))))), ?_⟩
    have c2 : c + 1 ≤ ((m + 1 : Nat) : Int) := by omega
    refine ⟨_, rfl, p, _, _, _, rfl, rfl, SqL.of hp, rfl, ⟨a, 0, rfl, rfl, _, rfl, ite2 (fun g => ?_) (fun g => ?_)⟩⟩
    · have g : 0 < a := of_decide_eq_true g
      refine ⟨_, rfl, p, _, _, _, rfl, rfl, SqL.of hp, rfl, ⟨_, rfl, a, span, rfl, rfl, z1, ?_⟩⟩
      refine ⟨_, rfl, p, _, _, _, rfl, rfl, SqL.of hp, rfl, ⟨_, rfl, a, span, rfl, rfl, ⟨z1, z2⟩, ?_⟩⟩
      refine ⟨_, rfl, p, _, 0, 0, rfl, rfl, hp, rfl, ?_⟩
      refine ⟨_, rfl, ?_⟩
      have r2 := wr (a / span) b c (m + 1) (Int.ediv_nonneg (Int.le_of_lt g) (Int.le_of_lt z1)) b0 b1 c0 (by omega)
      exact q _ _ _ _ (ph (a % span) (Int.emod_nonneg _ (by omega)) (Int.emod_lt_of_pos _ z1)) (by intro _ z; cases z) (r2.add fun _ => .int _)
    · have r2 := wr a b (c + 1) (m + 1) a0 b0 b1 (by omega) c2
      generalize hH : upd H p (.lst [.int a, .int b, .int (c + 1)]) = H2 at r2
      have hp2 : H2 p = some (.lst [.int a, .int b, .int (c + 1)]) := by rw [← hH]; exact upd_same
      refine ⟨_, rfl, p, _, _, _, rfl, rfl, SqL.of hp, rfl, ⟨c, 1, rfl, rfl, ?_⟩⟩
      refine ⟨_, rfl, p, _, 2, 2, rfl, rfl, hp, rfl, ?_⟩
      show (tSeq _ _) _ _ (upd H p (.lst [.int a, .int b, .int (c + 1)]))
      rw [hH]
      refine ⟨_, rfl, p, _, _, _, rfl, rfl, SqL.of hp2, rfl, ⟨_, rfl, p, _, _, _, rfl, rfl, SqL.of hp2, rfl, ⟨48271, c + 1, rfl, rfl, .inl ⟨by omega, by omega⟩, b, 48271 * (c + 1), rfl, rfl, _, rfl, p, _, _, _, rfl, rfl, SqL.of hp2, rfl, ⟨39373, c + 1, rfl, rfl, b + 48271 * (c + 1), 39373 + (c + 1), rfl, rfl, .inr ⟨by omega, by omega⟩, _, 2147483647, rfl, rfl, (by show (0 : Int) < 2147483647; decide), ?_⟩⟩⟩⟩
      refine ⟨_, rfl, _, rfl, p, _, _, _, rfl, rfl, SqL.of hp2, rfl, ⟨_, c + 1, rfl, rfl, _, rfl, p, _, _, _, rfl, rfl, SqL.of hp2, rfl, ⟨b, 1000003, rfl, rfl, ⟨by decide, by decide⟩, _, b / 1000003, rfl, rfl, _, rfl, _, 40009, rfl, rfl, (by show (0 : Int) < 40009; decide), _, 7, rfl, rfl, _, _, rfl, rfl, .inr ⟨by omega, by omega⟩, _, 2147483629, rfl, rfl, (by show (0 : Int) < 2147483629; decide), ?_⟩⟩⟩
      refine ⟨_, rfl, _, 48271, rfl, rfl, .inr ⟨by decide, by decide⟩, _, rfl, _, _, rfl, rfl, _, 2147483587, rfl, rfl, (by show (0 : Int) < 2147483587; decide), _, 64, rfl, rfl, ⟨by decide, by decide⟩, _, rfl, _, span, rfl, rfl, z1, ?_⟩
      exact q _ _ _ _ (ph _ (Int.emod_nonneg _ (by omega)) (Int.emod_lt_of_pos _ z1)) (by intro _ z; cases z) (r2.add fun _ => .int _)
end
end Kx
end
section
namespace Dl
open PySem PySem.Spec PyProof.Rows L2
def sameK : PyData → PyData → Bool
  | .int a, .int b => decide (a = b)
  | .str a, .str b => decide (a = b)
  | _, _ => false
theorem sameK_key : ∀ a b : Key, sameK (keyD a) (keyD b) = decide (a = b)
  | .inl a, .inl b => by
    show decide (a = b) = decide (Sum.inl a = (Sum.inl b : Key))
    by_cases h : a = b
    · rw [decide_eq_true h, decide_eq_true (congrArg _ h)]
    · rw [decide_eq_false h, decide_eq_false fun z => h (Sum.inl.inj z)]
  | .inr a, .inr b => by
    show decide (a = b) = decide (Sum.inr a = (Sum.inr b : Key))
    by_cases h : a = b
    · rw [decide_eq_true h, decide_eq_true (congrArg _ h)]
    · rw [decide_eq_false h, decide_eq_false fun z => h (Sum.inr.inj z)]
  | .inl _, .inr _ => rfl
  | .inr _, .inl _ => rfl
abbrev KVs := List (PyData × PyData)
def lkD : KVs → PyData → Option PyData
  | [], _ => none
  | p :: xs, k => if sameK p.1 k = true then some p.2 else lkD xs k
def hasD (xs : KVs) (k : PyData) : Bool := xs.any fun p => sameK p.1 k
def ptD (xs : KVs) (k d : PyData) : KVs := if hasD xs k = true then xs.map (fun p => if sameK p.1 k = true then (p.1, d) else p) else xs ++ [(k, d)]
def keyO : O → Option Key
  | .fz (.int i) => some (.inl i)
  | .fz (.str x) => some (.inr x)
  | _ => none
def vkd (Γ : Gm) : O → Option KVs
  | .fz (.dict xs) => some xs
  | .dct xs => some xs
  | .al i => match get Γ i with
    | some (.fz (.dict xs)) => some xs
    | some (.dct xs) => some xs
    | _ => none
  | _ => none
section
variable {K : PySem.W.Frag} {G0 G H H' : Hp} {L : Ent} {T F : Ent} {σ : Sl} {Γ : Gm} {v u : V} {o p : O} {d e : PyData} {xs : KVs} {k : Key} {kvs : List (Key × V)} {i : Nat}
theorem kv_len : ∀ {xs : KVs} {kvs : List (Key × V)}, DqKv K H kvs xs → kvs.length = xs.length
  | [], _, h => by cases h; rfl
  | _ :: xs, _, h => by
    cases h with
    | cons _ h2 => rw [List.length_cons, List.length_cons, kv_len h2]
theorem kv_get : ∀ {xs : KVs} {kvs : List (Key × V)}, DqKv K H kvs xs → ∀ k : Key, (valV kvs k = none ∧ lkD xs (keyD k) = none) ∨ ∃ u e, valV kvs k = some u ∧ lkD xs (keyD k) = some e ∧ Dq K H u e
  | [], _, h, k => by cases h; exact .inl ⟨rfl, rfl⟩
  | _ :: xs, _, h, k => by
    cases h with
    | cons h1 h2 =>
      rename_i k0 v0 kvs0 d0
      by_cases q : k0 = k
      · refine .inr ⟨v0, d0, valV_pos (p := (k0, v0)) q, ?_, h1⟩
        show (if sameK (keyD k0) (keyD k) = true then some d0 else _) = _
        rw [sameK_key, decide_eq_true q]
        rfl
      · have e1 : valV ((k0, v0) :: kvs0) k = valV kvs0 k := valV_neg (p := (k0, v0)) q
        have e2 : lkD ((keyD k0, d0) :: xs) (keyD k) = lkD xs (keyD k) := by
          show (if sameK (keyD k0) (keyD k) = true then some d0 else _) = _
          rw [sameK_key, decide_eq_false q]
          rfl
        rw [e1, e2]
        exact kv_get h2 k
theorem kv_any : ∀ {xs : KVs} {kvs : List (Key × V)}, DqKv K H kvs xs → ∀ k : Key, (kvs.any fun kv => decide (kv.1 = k)) = hasD xs (keyD k)
  | [], _, h, k => by cases h; rfl
  | _ :: xs, _, h, k => by
    cases h with
    | cons h1 h2 =>
      rename_i k0 v0 kvs0 d0
      show (decide (k0 = k) || _) = (sameK (keyD k0) (keyD k) || _)
      rw [sameK_key]
      exact congrArg _ (kv_any h2 k)
theorem kv_map : ∀ {xs : KVs} {kvs : List (Key × V)}, DqKv K H kvs xs → ∀ {k : Key} {v : V} {d : PyData}, Dq K H v d → DqKv K H (kvs.map fun kv => if kv.1 = k then (kv.1, v) else kv) (xs.map fun p => if sameK p.1 (keyD k) = true then (p.1, d) else p)
  | [], _, h, _, _, _, _ => by cases h; exact .nil
  | _ :: xs, _, h, k, v, d, hd => by
    cases h with
    | cons h1 h2 =>
      rename_i k0 v0 kvs0 d0
      rw [List.map_cons, List.map_cons]
      show DqKv K H ((if k0 = k then (k0, v) else (k0, v0)) :: _) ((if sameK (keyD k0) (keyD k) = true then (keyD k0, d) else (keyD k0, d0)) :: _)
      rw [sameK_key]
      by_cases q : k0 = k
      · rw [if_pos q, if_pos (decide_eq_true q)]
        exact .cons hd (kv_map h2 hd)
      · rw [if_neg q, if_neg (by rw [decide_eq_false q]; exact Bool.false_ne_true)]
        exact .cons h1 (kv_map h2 hd)
theorem kv_app : ∀ {xs ys : KVs} {kvs lvs : List (Key × V)}, DqKv K H kvs xs → DqKv K H lvs ys → DqKv K H (kvs ++ lvs) (xs ++ ys)
  | [], _, _, _, h, q => by cases h; exact q
  | _ :: xs, _, _, _, h, q => by
    cases h with
    | cons h1 h2 => exact .cons h1 (kv_app h2 q)
theorem kv_put (h : DqKv K H kvs xs) {v : V} (hd : Dq K H v d) : DqKv K H (putK kvs k v) (ptD xs (keyD k) d) := by
  unfold putK ptD
  rw [kv_any h k]
  split
  · exact kv_map h hd
  · exact kv_app h (.cons hd .nil)
/-- what lies in a thing at hand and stands still -/
theorem R.peek (r : R K G0 H ((v, o) :: L)) (h : ∀ G f, Same G H → dn K G H o v f → Dq K G u e) : R K G0 H ((u, .fz e) :: (v, o) :: L) := by
  obtain ⟨G, f, g, s0, s1, h1, h2, nd, hn⟩ := R.cons_iff.mp r
  refine R.cons_iff.mpr ⟨G, [], f ++ g, s0, s1, ?_, ?_, nd, hn⟩
  · unfold dn
    exact ⟨h G f s1 h1, rfl⟩
  · simp only [tO, tV, List.cons_append, List.map_cons]
    unfold dnAll
    exact ⟨v, _, f, g, rfl, rfl, h1, h2⟩
theorem dq_dict (h : Dq K H v (.dict xs)) : ∃ a kvs, v = .ref a ∧ H a = some (.dK kvs) ∧ DqKv K H kvs xs := by
  cases h with
  | dct h1 h2 => exact ⟨_, _, rfl, h1, h2⟩
theorem dct_in {a : Addr} (ha : H a = some (.dK kvs)) (hs : Same G H) {f : List Addr} (h : dn K G H o (.ref a) f) (hv : o = .dct xs ∨ o = .fz (.dict xs)) : DqKv K G kvs xs := by
  rcases hv with rfl | rfl
  · unfold dn at h
    obtain ⟨p, kvs', e, _, h1, h2⟩ := h
    cases e
    rw [ha] at h1
    cases h1
    exact h2
  · unfold dn at h
    obtain ⟨b, kvs', e, h1, h2⟩ := dq_dict h.1
    cases e
    have := hs _ _ h1
    rw [ha] at this
    cases this
    exact h2
theorem R.dkid (r : R K G0 H ((v, o) :: L)) (hv : o = .dct xs ∨ o = .fz (.dict xs)) : ∃ a kvs, v = .ref a ∧ H a = some (.dK kvs) ∧ DqKv K H kvs xs ∧
    ∀ k u e, valV kvs k = some u → lkD xs (keyD k) = some e → R K G0 H ((u, .fz e) :: (v, o) :: L) := by
  have hs : Dq K H v (.dict xs) := by rcases hv with rfl | rfl <;> exact r.seen rfl
  obtain ⟨a, kvs, rfl, ha, hk⟩ := dq_dict hs
  refine ⟨a, kvs, rfl, ha, hk, fun k u e h1 h2 => r.peek fun G f s h => ?_⟩
  rcases kv_get (dct_in ha s h hv) k with ⟨q, _⟩ | ⟨u', e', q1, q2, q3⟩
  · rw [h1] at q; cases q
  · rw [h1] at q1
    rw [h2] at q2
    cases q1
    cases q2
    exact q3
theorem Rel.dkid (r : Rel K G0 ((v, o) :: T) F σ H Γ) (h : vkd Γ o = some xs) : ∃ a kvs, v = .ref a ∧ H a = some (.dK kvs) ∧ DqKv K H kvs xs ∧
    ∀ k u e, valV kvs k = some u → lkD xs (keyD k) = some e → R K G0 H ((u, .fz e) :: (v, o) :: (T ++ (ents σ Γ ++ F))) := by
  cases o with
  | fz d =>
    cases d with
    | dict ys => cases h; exact R.dkid r.r (.inr rfl)
    | _ => cases h
  | dct ys => cases h; exact R.dkid r.r (.inl rfl)
  | al i =>
    have h : (match get Γ i with | some (.fz (.dict xs)) => some xs | some (.dct xs) => some xs | _ => none) = some xs := h
    cases g : get Γ i with
    | none => rw [g] at h; cases h
    | some u =>
      rw [g] at h
      obtain ⟨w, h1, h2, h3⟩ := r.out g
      have ev : σ[i]? = some (some v) := r.al v i List.mem_cons_self
      rw [h1] at ev
      cases ev
      have back : ∀ {M : Ent} {u}, get Γ i = some u → R K G0 H (M ++ ((v, u) :: ((v, .al i) :: T ++ (ents σ (put Γ i none) ++ F)))) → R K G0 H (M ++ ((v, .al i) :: (T ++ (ents σ Γ ++ F)))) := fun {M u} g r9 => by
        obtain ⟨w, q1, q2, q3⟩ := ents_out r.fit g
        rw [h1] at q1
        cases q1
        refine r9.perm (List.Perm.append_left M ?_)
        have q : ((v, u) :: ((v, O.al i) :: T ++ (ents σ (put Γ i none) ++ F))).Perm ((v, .al i) :: (T ++ ((v, u) :: (ents σ (put Γ i none) ++ F)))) := (List.Perm.swap _ _ _).trans (List.Perm.cons _ List.perm_middle.symm)
        exact q.trans (List.Perm.cons _ (List.Perm.append_left T (q2.symm.append_right F)))
      have hu : u = .dct xs ∨ u = .fz (.dict xs) := by
        cases u with
        | fz d =>
          cases d with
          | dict ys => cases h; exact .inr rfl
          | _ => cases h
        | dct ys => cases h; exact .inl rfl
        | _ => cases h
      obtain ⟨a, kvs, e1, e2, e3, e4⟩ := R.dkid h2 hu
      exact ⟨a, kvs, e1, e2, e3, fun k u2 e a1 a2 => back (M := [(u2, .fz e)]) g (e4 k u2 e a1 a2)⟩
  | own _ => cases h
  | ol _ => cases h
  | box _ _ => cases h
  | any => cases h
  | ob _ => cases h
theorem key_at (r : Rel K G0 ((u, p) :: T) F σ H Γ) (h : keyO p = some k) : u = kV k := by
  cases p with
  | fz d =>
    cases d with
    | int i => cases h; exact R.int r.r
    | str x => cases h; exact R.str r.r
    | _ => cases h
  | _ => cases h
theorem dget_of {a : Addr} (h : H a = some (.dK kvs)) (k : Key) : DGet H a (kV k) (valV kvs k) := .inl ⟨kvs, k, .inl h, rfl, rfl⟩
end
section
variable {X : Cx} {pos : Pos} {τ τa τb τc : TEd} {τs : TAd} {a b c : Expr}
def dDix (τa τb : TEd) : TEd := fun Γ Kt => τa Γ fun o Γ1 => τb Γ1 fun p Γ2 => match vkd Γ2 o, keyO p with
  | some xs, some k => (match lkD xs (keyD k) with
    | some e => Kt (.fz e) Γ2
    | none => False)
  | _, _ => False
theorem de_dix (hu : X.A.units + 65 < cLine) (ha : DE X a τa) (hb : DE X b τb) (hs : NoSl b := by exact fun _ _ => rfl) : DE X (.Subscript a b pos) (dDix τa τb) := peI (pe_dget (by omega) ha hb hs) fun σ H Q ⟨G0, Γ, T, F, Kt, R1, k, q⟩ =>
  ⟨G0, Γ, T, F, _, R1, k, fun o Γ1 v H1 k1 R2 => ⟨G0, Γ1, (v, o) :: T, F, _, R2, k1, fun p Γ2 w H2 k2 R3 => by
    cases hv : vkd Γ2 o with
    | none => simp only [hv] at k2
    | some xs =>
      cases hk : keyO p with
      | none => simp only [hv, hk] at k2
      | some kk =>
        simp only [hv, hk] at k2
        cases hx : lkD xs (keyD kk) with
        | none => rw [hx] at k2; exact k2.elim
        | some e =>
          rw [hx] at k2
          obtain rfl := key_at R3 hk
          have R4 := R3.drop
          obtain ⟨ad, kvs, rfl, h1, h2, h3⟩ := R4.dkid hv
          rcases kv_get h2 kk with ⟨_, z⟩ | ⟨u, e', q1, q2, _⟩
          · rw [hx] at z; cases z
          · rw [hx] at q2
            cases q2
            refine ⟨ad, u, rfl, ?_, q _ Γ2 u H2 k2 (Rel.take1 (M := [(V.ref ad, o)]) R4.fit R4.al.tail (fun _ z => nomatch z) (h3 kk u e q1 hx))⟩
            have := dget_of h1 kk
            rw [q1] at this
            exact this⟩⟩
theorem R.newDD {K : PySem.W.Frag} {G0 H : Hp} {L : Ent} {p : Addr} (r : R K G0 H L) (hp : H p = none) : R K G0 (upd H p (.dK [])) ((.ref p, .dct []) :: L) := by
  obtain ⟨G, g, s0, s1, b, nd, hn⟩ := r
  have gp : G p = none := s1.free hp
  have hpg : ∀ a ∈ g, a ≠ p := fun a ha z => by
    obtain ⟨u, q⟩ := dnAll_has _ _ g b a ha
    rw [z, hp] at q
    cases q
  refine R.cons_iff.mpr ⟨G, [p], g, s0, s1.trans (same_upd hp), ?_, dnAll_keep (Same.refl G) _ _ g b fun a ha => upd_ne (hpg a ha), ?_, fun a ha => ?_⟩
  · unfold dn
    exact ⟨p, [], rfl, rfl, upd_same, .nil⟩
  · exact List.nodup_cons.mpr ⟨fun z => hpg p z rfl, nd⟩
  · rcases List.mem_cons.mp ha with rfl | ha
    · exact gp
    · exact hn a ha
theorem R.dput {K : PySem.W.Frag} {G0 H : Hp} {L : Ent} {v w : V} {xs : KVs} {d : PyData} (r : R K G0 H ((v, .dct xs) :: (w, .fz d) :: L)) : ∃ a kvs, v = .ref a ∧ H a = some (.dK kvs) ∧ kvs.length = xs.length ∧
    ∀ k, R K G0 (upd H a (.dK (putK kvs k w))) ((v, .dct (ptD xs (keyD k) d)) :: L) := by
  obtain ⟨G, f, g, s0, s1, h1, h2, nd, hn⟩ := R.cons_iff.mp r
  unfold dn at h1
  obtain ⟨p, kvs, rfl, rfl, e1, e2⟩ := h1
  refine ⟨p, kvs, rfl, e1, kv_len e2, fun k => ?_⟩
  simp only [tO, tV, List.cons_append, List.map_cons] at h2
  unfold dnAll at h2
  obtain ⟨v', vr, f', g', e, rfl, h3, h4⟩ := h2
  cases e
  unfold dn at h3
  obtain ⟨h3, rfl⟩ := h3
  refine R.put s0 s1 h4 nd hn ?_
  unfold dn
  exact ⟨p, _, rfl, rfl, upd_same, kv_put e2 h3⟩
end
end Dl
end
section
namespace Dl
open PySem PySem.Spec PyProof.Rows L2
end Dl
end
section
namespace Dl
open PySem PySem.Spec PyProof.Rows L2
theorem for_at {Γ1 : Gm} {B : (Nat → Gm → Prop) → Prop} (M : Gm → Nat → Gm → Prop) (h0 : M Γ1 0 Γ1) (h : B (M Γ1)) : ∃ Iv : Nat → Gm → Prop, Iv 0 Γ1 ∧ B Iv := ⟨M Γ1, h0, h⟩
theorem lc_at {Γ1 : Gm} {B : (Nat → List PyData → Gm → Prop) → Prop} (f : Nat → List PyData) (h0 : f 0 = []) (h : B (fun i acc Γ => acc = f i ∧ Γ = Γ1)) : ∃ Iv : Nat → List PyData → Gm → Prop, Iv 0 [] Γ1 ∧ B Iv := ⟨_, ⟨h0.symm, rfl⟩, h⟩
theorem lcx_at {Γ1 : Gm} {B : (Nat → List PyData → Gm → Prop) → Prop} (M : Gm → Nat → List PyData → Gm → Prop) (h0 : M Γ1 0 [] Γ1) (h : B (M Γ1)) : ∃ Iv : Nat → List PyData → Gm → Prop, Iv 0 [] Γ1 ∧ B Iv := ⟨M Γ1, h0, h⟩
theorem norm_ex {Γ1 Γn : Gm} {B : (Nat → Gm → Prop) → Prop} (hn : Γ1 = Γn) (h : ∃ Iv : Nat → Gm → Prop, Iv 0 Γn ∧ B Iv) : ∃ Iv : Nat → Gm → Prop, Iv 0 Γ1 ∧ B Iv := hn ▸ h
theorem norm_lc {Γ1 Γn : Gm} {B : (Nat → List PyData → Gm → Prop) → Prop} (hn : Γ1 = Γn) (h : ∃ Iv : Nat → List PyData → Gm → Prop, Iv 0 [] Γn ∧ B Iv) : ∃ Iv : Nat → List PyData → Gm → Prop, Iv 0 [] Γ1 ∧ B Iv := hn ▸ h
end Dl
end
section
namespace Dl
open PySem PySem.Spec PyProof.Rows L2
def frz : Gm → List Nat → (Gm → Prop) → Prop
  | Γ, [], k => k Γ
  | Γ, i :: is, k => match get Γ i with
    | some u => (match see u with
      | some d => frz (put Γ i (some (.fz d))) is k
      | none => False)
    | none => False
end Dl
namespace Dl
def puts : Gm → List (Nat × Option O) → Gm
  | Γ, [] => Γ
  | Γ, (i, o) :: r => puts (put Γ i o) r
end Dl
end
section
namespace Dl
open PySem PySem.Spec PyProof.Rows L2
section
variable {X : Cx} {pos p : Pos} {e : Expr} {es : List Expr} {τs : TAd} {n k : Nat} {φb : Nat → List PyData → (O → Nat → Prop) → Prop} {x : Str} {f : Addr} {fd : FuncData} {ps : List Str}
def onBoxN (n : Nat) (φ : Nat → List PyData → (O → Nat → Prop) → Prop) (Kt : O → Gm → Prop) (Γ1 : Gm) (os : List O) : Prop := match os with
  | o :: os1 => isBox 0 o ∧ escs Γ1 os1 fun ds Γ2 => ds.length = n ∧ φ 0 ds fun o _ => Kt o Γ2
  | [] => False
def dCallBN (n : Nat) (φ : Nat → List PyData → (O → Nat → Prop) → Prop) (t : TAd) : TEd := fun Γ Kt => t Γ fun os Γ1 => onBoxN n φ Kt Γ1 os
theorem useBN {G0 : Hp} {Γ : Gm} {T F : Ent} {σ : Sl} {H : Hp} {vs : List V} {os : List O} {Kt : O → Gm → Prop} {Q : VK} {E : XK} (hl : vs.length = os.length) (R2 : Rel X.K G0 (vs.zip os ++ T) F σ H Γ)
    (k1 : onBoxN n φb Kt Γ os) (q : ∀ o Γ' v H', Kt o Γ' → Rel X.K G0 ((v, o) :: T) F σ H' Γ' → Q v H') : spB X.K n φb vs H Q E := by
  cases os with
  | nil => exact k1.elim
  | cons oh os1 =>
    obtain ⟨⟨a, b, c, rfl, h1, h2, h3, h4, h5⟩, k2⟩ := (show isBox 0 oh ∧ escs Γ os1 (fun ds Γ2 => ds.length = n ∧ φb 0 ds fun o _ => Kt o Γ2) from k1)
    obtain ⟨v, vr, rfl⟩ : ∃ v r, vs = v :: r := by
      cases vs with
      | nil => cases hl
      | cons v r => exact ⟨v, r, rfl⟩
    have R2 : Rel X.K G0 ((v, .own [.int a, .int b, .int c]) :: (vr.zip os1 ++ T)) F σ H Γ := R2
    obtain ⟨p, r3⟩ := R.toBox (n := 0) R2.r h1 h2 h3 h4 h5
    obtain ⟨rfl, _⟩ := r3.draw
    have R3 : Rel X.K G0 ((.ref p, .box p 0) :: (vr.zip os1 ++ T)) F σ H Γ := ⟨R2.fit, R2.al.tail.cons (fun _ z => nomatch z), r3⟩
    obtain ⟨ds, Γ2, ⟨e1, e3⟩, hl2, R4⟩ := Rel.escapes (Nat.succ.inj hl) R3.toF' k2
    refine ⟨G0, p, 0, ds, vr, T ++ (ents σ Γ2 ++ F), _, rfl, hl2, e1, ?_, e3, fun o m' u H' k3 n1 r => q o Γ2 u H' k3 ?_⟩
    · refine R4.r.perm ?_
      rw [List.append_assoc]
      have q : (fzs vr ds ++ (T ++ (ents σ Γ2 ++ (V.ref p, O.box p 0) :: F))).Perm ((V.ref p, O.box p 0) :: (fzs vr ds ++ (T ++ (ents σ Γ2 ++ F)))) := by
        rw [← List.append_assoc, ← List.append_assoc, ← List.append_assoc, ← List.append_assoc]
        exact List.perm_middle
      exact q
    · exact ⟨R4.fit, AlOk.cons (fun w j mm => R2.al w j (List.mem_cons_of_mem _ (List.mem_append_right _ mm))) n1, R.tail (r.perm (.swap _ _ _))⟩
theorem de_canBGN {j k : Nat} (C : CanG X.prog X.w X.K X.mg X.base j x ps (spB X.K n φb)) (hr : Room k X.A) (g0 : X.A.guards = some []) (ha : DA X (e :: es) τs) (hj : j ≤ k := by decide) (hg : Gl X x := by rfl)
    (hdb : (x == ("__debug__" : Str)) = false := by decide) (he : starEach (e :: es) X.env = (false, eval e X.env) :: starEach es X.env := by rfl) (hpl : (backTo pos (starEach es X.env)).any (·.1) = false := by rfl) :
    DE X (.Call (.Name x p) (e :: es) [] pos) (dCallBN n φb τs) := by
  obtain ⟨f, fd, h1, h2, h3, h4⟩ := C
  exact peI (pe_callG h4 (hr.mono hj) g0 hg h1 h2 h3 ha hdb he hpl) fun σ H Q ⟨G0, Γ, T, F, Kt, R1, k, q⟩ => ⟨G0, Γ, T, F, _, R1, k, fun os Γ1 vs H1 k1 hl R2 => by
    show spB X.K n φb (vs ++ []) H1 Q E0
    rw [List.append_nil]
    exact useBN hl R2 k1 q⟩
theorem de_canSK {j k : Nat} {K : PySem.W.Frag} {φ : List Int → List PyData → (O → Prop) → Prop} (C : Can X.prog X.w K X.mg X.base j x ps (spS K n φ)) (hr : Room k X.A) (ha : DA X (e :: es) τs) (hK : X.K = K := by rfl) (hj : j ≤ k := by decide) (hg : Gl X x := by rfl)
    (hdb : (x == ("__debug__" : Str)) = false := by decide) (he : starEach (e :: es) X.env = (false, eval e X.env) :: starEach es X.env := by rfl) (hpl : (backTo pos (starEach es X.env)).any (·.1) = false := by rfl) :
    DE X (.Call (.Name x p) (e :: es) [] pos) (dCallS n φ K τs) := by
  subst hK
  exact de_canS C hr ha hj hg hdb he hpl
end
end Dl
end
section
namespace Dl
open PySem PySem.Spec PyProof.Rows L2
end Dl
end
section
namespace Dl
open PySem PySem.Spec PyProof.Rows L2
end Dl
end
section
namespace Dl
open PySem PySem.Spec PyProof.Rows L2
end Dl
end
section
namespace Dl
open PySem PySem.Spec PyProof.Rows L2
end Dl
end
section
namespace Dl
open PySem PySem.Spec PyProof.Rows L2
end Dl
end
section
set_option maxHeartbeats 4000000
namespace Dl
open PySem PySem.Spec PyProof.Rows L2
/-- the table stays, or has a new code object -/
def TabStep (P : Addr) (q : Str) (ps : Array Value) (H H1 : Hp) : Prop := H1 = H ∨ ∃ (more : Array Value) (c : Addr), H c = none ∧ TriplesOk (ps ++ more).toList ∧
  (∀ (pos : Pos) (cv : Value), codeAmong pos (ps ++ more).toList = some cv → codeAmong pos ps.toList = some cv ∨ cv = .ref c) ∧ H1 = upd (upd H P (.tbl (ps ++ more))) c (LamX.CodeO c q)
theorem TabStep.at {P : Addr} {q : Str} {ps : Array Value} {H H1 : Hp} (t : TabStep P q ps H H1) (hP : H P = some (.tbl ps)) {b : Addr} {o : HO} (h : H b = some o) (n : b ≠ P) : H1 b = some o := by
  rcases t with rfl | ⟨more, c, hc, _, _, rfl⟩
  · exact h
  · rw [upd_ne (ne_of_none h hc), upd_ne n]
    exact h
theorem TabStep.none {P : Addr} {q : Str} {ps : Array Value} {H H1 : Hp} (t : TabStep P q ps H H1) {b : Addr} (h : H1 b = none) : H b = none := by
  rcases t with rfl | ⟨more, c, hc, _, _, rfl⟩
  · exact h
  · by_cases e : b = c
    · rw [e]; exact hc
    · rw [upd_ne e] at h
      by_cases e2 : b = P
      · rw [e2, upd_same] at h
        cases h
      · rw [upd_ne e2] at h
        exact h
/-- its scope: the parameter y alone is its own; what is captured is the maker's -/
structure LamS1 (sc scope : Scope) (y : Str) : Prop where
  kind : scope.kind = .function
  co : scope.isCoroutine = false
  gen : scope.isGenerator = false
  cell : ∀ z ∈ scope.names, z.2 ≠ .cell
  loc : scope.names.lookup y = some .local
  free : ∀ z ∈ scope.names, z.2 = .free → sc.names.lookup z.1 = some .cell ∨ sc.names.lookup z.1 = some .free
  own : ∀ z ∈ scope.names, z.2 = .local → z.1 = y
theorem LamS1.has {X : Cx} {scope : Scope} {y : Str} (L : LamS1 X.env.scope scope y) (ok : X.Ok) : ∀ z ∈ scope.names, z.2 = .free → ∃ c, X.env.cells.lookup z.1 = some c := fun z hz e => by
  rcases L.free z hz e with k | k
  · exact ok.has _ (.inl k)
  · exact ok.has _ (.inr k)
section
variable {X : Cx}
theorem R.ints {K : PySem.W.Frag} {G0 H : Hp} {L : Ent} (r : R K G0 H L) : ∀ js : List Int, R K G0 H (fzs (js.map V.int) (js.map PyData.int) ++ L)
  | [] => r
  | j :: js => (R.ints r js).add fun _ => .int j
theorem dq_lint {K : PySem.W.Frag} {H : Hp} {v : V} {ns : List Int} (h : Dq K H v (.list (ns.map .int))) : ∃ a, v = .ref a ∧ H a = some (.lst (ns.map V.int)) := by
  cases h with
  | lst hs ha => exact ⟨_, rfl, by rw [dpAll_ints_inv ha] at hs; exact hs⟩
end
end Dl
end
section
set_option maxHeartbeats 4000000
namespace Dl
open PySem PySem.Spec PyProof.Rows L2
section
variable {X : Cx} {pos : Pos} {kx vx tg iter : Expr} {ifs : List Expr} {scope : Scope} {own : List (Str × Nat)} {ws : List Nat} {τi : TId} {γ : TGd} {tt : TTd} {tk te : TEd}
def dDc (τi : TId) (γ : TGd) (tt : TTd) (tk te : TEd) (vs : List Nat) : TEd := fun Γ Kt => τi Γ fun n it Γ1 => ∃ Iv : Nat → KVs → Gm → Prop, Iv 0 [] (wipeG Γ1 vs) ∧
  (∀ i acc Γ2, i < n → Iv i acc Γ2 → γ (it i) Γ2 fun Γ3 => tt Γ3 fun b Γ4 => (b = true → tk Γ4 fun p Γ5 => ∃ k : Key, keyO p = some k ∧ te Γ5 fun o Γ6 => esc Γ6 o fun d Γ7 => acc.length < sizeLine ∧ Iv (i + 1) (ptD acc (keyD k) d) (wipeG Γ7 vs)) ∧ (b = false → Iv (i + 1) acc (wipeG Γ4 vs))) ∧
  ∀ acc Γ2, Iv n acc Γ2 → Kt (.dct acc) Γ2
theorem dc_read {K : PySem.W.Frag} {vs : List Nat} {σ : Sl} {H : Hp} {Q : VK} (hw : ∀ i ∈ ws, i ∈ vs) (h : liftE K (dDc τi γ tt tk te vs) σ H Q) : tDc (liftI K τi) (liftG K ws γ) (liftT K tt) (liftE K tk) (liftE K te) vs σ H Q := by
  obtain ⟨G0, Γ, T, F, Kt, R1, k, q⟩ := h
  refine ⟨G0, Γ, T, F, _, R1, k, fun n it Γ1 J S H1 ⟨Iv, i0, is, ie⟩ fd R2 D hD => ?_⟩
  have r0 : Rel K G0 [] (T ++ (S ++ F)) (wipe σ vs) H1 (wipeG Γ1 vs) := (Rel.allF R2).wiped vs
  have r1 : Rel K G0 [] ((.ref D, .dct []) :: (T ++ (S ++ F))) (wipe σ vs) (upd H1 D (.dK [])) (wipeG Γ1 vs) := Rel.toF' (T := []) (o := .dct []) ⟨r0.fit, r0.al.cons (by intro _ z; cases z), R.newDD r0.r hD⟩
  have rS : ∀ {M : Ent} {σ H Γ}, Rel K G0 [] (M ++ (T ++ (S ++ F))) σ H Γ → R K G0 H (S ++ (M ++ (T ++ (ents σ Γ ++ F)))) := fun {M σ H Γ} r => r.r.perm (by
    have pq : ∀ M N L : Ent, (M ++ (N ++ L)).Perm (N ++ (M ++ L)) := fun M N L => by
      rw [← List.append_assoc, ← List.append_assoc]
      exact List.perm_append_comm.append_right L
    show (ents σ Γ ++ (M ++ (T ++ (S ++ F)))).Perm (S ++ (M ++ (T ++ (ents σ Γ ++ F))))
    refine (pq (ents σ Γ) M _).trans ?_
    refine (List.Perm.append_left M ((pq (ents σ Γ) T _).trans (List.Perm.append_left T (pq (ents σ Γ) S F)))).trans ?_
    refine (List.Perm.append_left M (pq T S _)).trans (pq M S _))
  refine ⟨fun i m H => m = n - i ∧ i ≤ n ∧ ∃ acc Γ, Iv i acc Γ ∧ Rel K G0 [] ((.ref D, .dct acc) :: (T ++ (S ++ F))) (wipe σ vs) H Γ, ⟨n, rfl, Nat.zero_le _, [], _, i0, r1⟩, ?_⟩
  rintro i m H2 ⟨rfl, hle, acc, Γ2, iv, R3⟩
  by_cases hlt : i < n
  · obtain ⟨g1, g2⟩ := fd.step (rS (M := [(.ref D, .dct acc)]) R3) hlt
    refine .inr ⟨g1, fun H' => ∃ acc Γ, Iv (i + 1) acc Γ ∧ Rel K G0 [] ((.ref D, .dct acc) :: (T ++ (S ++ F))) (wipe σ vs) H' Γ, fun H' h => ⟨n - (i + 1), by omega, rfl, hlt, h⟩, fun x H' hy => ?_⟩
    have r4 := g2 x H' hy
    have R4 : Rel K G0 [] ((x, .fz (it i)) :: ((.ref D, .dct acc) :: (T ++ (S ++ F)))) (wipe σ vs) H' Γ2 := ⟨R3.fit, R3.al, r4.perm (by
      have pq : ∀ M N L : Ent, (M ++ (N ++ L)).Perm (N ++ (M ++ L)) := fun M N L => by
        rw [← List.append_assoc, ← List.append_assoc]
        exact List.perm_append_comm.append_right L
      show ((x, O.fz (it i)) :: (S ++ ([(V.ref D, O.dct acc)] ++ (T ++ (ents (wipe σ vs) Γ2 ++ F))))).Perm (ents (wipe σ vs) Γ2 ++ ([(x, O.fz (it i))] ++ ([(V.ref D, O.dct acc)] ++ (T ++ (S ++ F)))))
      refine List.Perm.trans ?_ (pq [(x, O.fz (it i))] (ents (wipe σ vs) Γ2) _)
      refine List.Perm.cons _ ?_
      refine (pq S [(V.ref D, O.dct acc)] _).trans ?_
      refine List.Perm.trans ?_ (pq [(V.ref D, O.dct acc)] (ents (wipe σ vs) Γ2) _)
      refine List.Perm.cons _ ?_
      refine (pq S T _).trans ?_
      refine List.Perm.trans ?_ (pq T (ents (wipe σ vs) Γ2) _)
      exact List.Perm.append_left T (pq S _ F))⟩
    refine ⟨G0, Γ2, (.ref D, .dct acc) :: (T ++ (S ++ F)), it i, _, R4, is i acc Γ2 hlt iv, fun Γ3 σ3 H3 k3 ag R5 => ⟨?_, G0, Γ3, [], _, _, R5, k3, fun b Γ4 H4 k4 R6 => ?_⟩⟩
    · rw [agree_wipe ag hw]
      exact wipe_wipe σ vs
    · have hw3 : wipe σ3 vs = wipe σ vs := by rw [agree_wipe ag hw]; exact wipe_wipe σ vs
      cases b with
      | false =>
        refine iteF ?_
        refine ⟨acc, _, k4.2 rfl, ?_⟩
        rw [← hw3]
        exact Rel.wiped R6 vs
      | true =>
        refine iteT ?_
        refine ⟨G0, Γ4, [], _, _, R6, k4.1 rfl, fun p Γ5 y H5 k5 R7 => ?_⟩
        obtain ⟨k, hk, k5⟩ := k5
        have ey : y = kV k := key_at R7 hk
        refine ⟨G0, Γ5, [], _, _, R7.drop, k5, fun o Γ6 z H6 k6 R8 => ?_⟩
        obtain ⟨d, Γ7, ⟨z1, k7⟩, R9⟩ := R8.escape k6
        have r9 : R K G0 H6 ((.ref D, .dct acc) :: ((z, .fz d) :: (ents σ3 Γ7 ++ (T ++ (S ++ F))))) := R9.r.perm (by
          show ((z, O.fz d) :: (ents σ3 Γ7 ++ ((V.ref D, O.dct acc) :: (T ++ (S ++ F))))).Perm ((V.ref D, O.dct acc) :: (z, O.fz d) :: (ents σ3 Γ7 ++ (T ++ (S ++ F))))
          exact (List.Perm.cons _ List.perm_middle).trans (.swap _ _ _))
        obtain ⟨a, kvs, e0, e1, e2, e3⟩ := R.dput r9
        cases e0
        refine ⟨kvs, k, ey, e1, by rw [e2]; exact z1, ptD acc (keyD k) d, _, k7, ?_⟩
        have R10 : Rel K G0 [] ((.ref D, .dct (ptD acc (keyD k) d)) :: (T ++ (S ++ F))) σ3 (upd H6 D (.dK (putK kvs k z))) Γ7 := ⟨R9.fit, fun _ _ m => by simp at m, (e3 k).perm (by
          exact List.perm_middle.symm)⟩
        rw [← hw3]
        exact R10.wiped vs
  · obtain rfl : i = n := by omega
    have fr := fd.stop (rS (M := [(.ref D, .dct acc)]) R3)
    refine .inl ⟨fr, ?_⟩
    obtain ⟨f1, f2⟩ := fit_unwipe R3.fit
    have R4 : Rel K G0 [] ((.ref D, .dct acc) :: (T ++ (S ++ F))) σ H2 Γ2 := ⟨f1, fun _ _ m => by simp at m, by
      show R K G0 H2 (ents σ Γ2 ++ _)
      rw [f2]
      exact R3.r⟩
    have R5 : Rel K G0 T (S ++ ((.ref D, .dct acc) :: F)) σ H2 Γ2 := Rel.unallF R2.al ⟨R4.fit, R4.al, R4.r.perm (by
      show (ents σ Γ2 ++ ((V.ref D, O.dct acc) :: (T ++ (S ++ F)))).Perm (ents σ Γ2 ++ (T ++ (S ++ ((V.ref D, O.dct acc) :: F))))
      refine List.Perm.append_left _ ?_
      refine List.Perm.trans ?_ (List.Perm.append_left T List.perm_middle.symm)
      exact List.perm_middle.symm)⟩
    exact q _ Γ2 _ H2 (ie acc Γ2 iv) (Rel.ofF' (by intro _ z; cases z) R5.dropF)
where
  wipe_wipe (σ : Sl) (vs : List Nat) : wipe (wipe σ vs) vs = wipe σ vs := by
    apply List.ext_getElem?
    intro i
    by_cases hi : i ∈ vs
    · rw [wipe_in hi, wipe_in hi, wipe_length]
    · rw [wipe_out hi]
end
end Dl
end
section
set_option maxHeartbeats 4000000
namespace Dl
open PySem PySem.Spec PyProof.Rows L2
end Dl
end
section
set_option maxHeartbeats 4000000
namespace Dl
open PySem PySem.Spec PyProof.Rows L2
end Dl
end
section
set_option maxHeartbeats 4000000
namespace Dl
open PySem PySem.Spec PyProof.Rows L2
end Dl
end
section
namespace Dl
open PySem PySem.Spec PyProof.Rows L2
abbrev NK := PySem.NestedKey
def NO (d : Addr) (o : Obj) : HO := .ext fun h => h.get? d = some o
def EntN (K : PySem.W.Frag) (G : Hp) (p : NK × V) (q : NK × Addr × Value) : Prop := p.1 = q.1 ∧ Dq K G (.ref q.2.1) p.1.data ∧ p.1.depth ≤ 8 ∧ RelV p.2 q.2.2
/-- the object o is the dict kvs; the keys' tuples stand in G -/
def NdD (P : Program) (w : World) (K : PySem.W.Frag) (G : Hp) (d : Addr) (o : Obj) (kvs : List (NK × V)) : Prop :=
  (d == sysModules) = false ∧ kvs.length ≤ sizeLine ∧ ∃ (xs : List (NK × Addr × Value)) (es : Array DictEntry) (ep : Nat), Paired (EntN K G) kvs xs ∧ o.ExactDict ∧ o.data = .dict es ep ∧ es.toList = xs.map (entryOfKey (nestedKind P w)) ∧ (xs.map (·.1)).Nodup
section
variable {P : Program} {w : World} {K : PySem.W.Frag} {G G' H : Hp} {d b : Addr} {o : Obj} {kvs : List (NK × V)} {xs : List (NK × Addr × Value)} {k : NK} {v : V} {u : Value}
theorem entN_mono (e : Same G G') : ∀ {kvs : List (NK × V)} {xs : List (NK × Addr × Value)}, Paired (EntN K G) kvs xs → Paired (EntN K G') kvs xs
  | _, _, .nil => .nil
  | _, _, .cons ⟨h1, h2, h3, h4⟩ t => .cons ⟨h1, dp_mono e _ _ h2, h3, h4⟩ (entN_mono e t)
theorem NdD.mono (e : Same G G') (h : NdD P w K G d o kvs) : NdD P w K G' d o kvs := by
  obtain ⟨a, b, xs, es, ep, p, r⟩ := h
  exact ⟨a, b, xs, es, ep, entN_mono e p, r⟩
end
end Dl
end
section
namespace Dl
open PySem PySem.Spec PyProof.Rows L2
abbrev KNs := List (NK × PyData)
def DqN (K : PySem.W.Frag) (G : Hp) : List (NK × V) → KNs → Prop := Paired fun p q => p.1 = q.1 ∧ Dq K G p.2 q.2
def phN (P : Program) (w : World) (K : PySem.W.Frag) (ob : Obj) (xs : KNs) : Hp → Hp → V → List Addr → Prop := fun G H v fp => ∃ d kvs, v = .ref d ∧ fp = [d] ∧ H d = some (NO d ob) ∧ NdD P w K G d ob kvs ∧ DqN K G kvs xs
def phZ (P : Program) (w : World) (K : PySem.W.Frag) (ob : Obj) (xs : KNs) : Hp → Hp → V → List Addr → Prop := fun G _ v fp => ∃ d kvs, v = .ref d ∧ fp = [] ∧ G d = some (NO d ob) ∧ NdD P w K G d ob kvs ∧ DqN K G kvs xs
abbrev ndO (P : Program) (w : World) (K : PySem.W.Frag) (ob : Obj) (xs : KNs) : O := .ob (phN P w K ob xs)
abbrev zdO (P : Program) (w : World) (K : PySem.W.Frag) (ob : Obj) (xs : KNs) : O := .ob (phZ P w K ob xs)
section
variable {P : Program} {w : World} {K : PySem.W.Frag} {G G' H G0 : Hp} {L : Ent} {ob : Obj} {xs : KNs} {kvs : List (NK × V)} {k : NK} {v u y : V} {e dk : PyData} {o : O} {ks : List NK}
/-- a frozen one among the rest -/
theorem fz_of : ∀ {M : Ent} {g : List Addr}, dnAll K G H (M.map (·.2)) (M.map (·.1)) g → (y, O.fz dk) ∈ M → Dq K G y dk
  | [], g, h, m => by simp at m
  | (v, o) :: M, g, h, m => by
    rw [List.map_cons, List.map_cons] at h
    unfold dnAll at h
    obtain ⟨v', vr, f, g', q, rfl, h1, h2⟩ := h
    cases q
    rcases List.mem_cons.mp m with q | m
    · cases q
      unfold dn at h1
      exact h1.1
    · exact fz_of h2 m
def IsNd (P : Program) (w : World) (K : PySem.W.Frag) (o : O) (ob : Obj) (xs : KNs) : Prop := o = ndO P w K ob xs ∨ o = zdO P w K ob xs
/-- what such a dict is, with what stands still beside it -/
theorem R.nd (r : R K G0 H ((v, o) :: L)) (h : IsNd P w K o ob xs) : ∃ d kvs G, v = .ref d ∧ H d = some (NO d ob) ∧ Same G H ∧ NdD P w K G d ob kvs ∧ DqN K G kvs xs ∧ (∀ y dk, (y, O.fz dk) ∈ L → Dq K G y dk) ∧
    ∀ u e, Dq K G u e → R K G0 H ((u, .fz e) :: (v, o) :: L) := by
  obtain ⟨G, f, g, s0, s1, h1, h2, nd, hn⟩ := R.cons_iff.mp r
  have add : ∀ u e, Dq K G u e → R K G0 H ((u, .fz e) :: (v, o) :: L) := fun u e q => by
    refine R.cons_iff.mpr ⟨G, [], f ++ g, s0, s1, ?_, ?_, nd, hn⟩
    · unfold dn
      exact ⟨q, rfl⟩
    · simp only [tO, tV, List.cons_append, List.map_cons]
      unfold dnAll
      exact ⟨v, _, f, g, rfl, rfl, h1, h2⟩
  have inL : ∀ y dk, (y, O.fz dk) ∈ L → Dq K G y dk := fun y dk m => fz_of h2 (List.mem_append_left _ m)
  rcases h with rfl | rfl
  · unfold dn at h1
    obtain ⟨⟨d, kvs, rfl, rfl, e1, e2, e3⟩, _⟩ := h1
    exact ⟨d, kvs, G, rfl, e1, s1, e2, e3, inL, add⟩
  · unfold dn at h1
    obtain ⟨⟨d, kvs, rfl, rfl, e1, e2, e3⟩, _⟩ := h1
    exact ⟨d, kvs, G, rfl, s1 _ _ e1, s1, e2, e3, inL, add⟩
theorem NdD.nil {d : Addr} (hd : (d == sysModules) = false) : NdD P w K G d { cls := .type "dict", data := .dict #[] } [] := ⟨hd, Nat.zero_le _, [], #[], 0, .nil, ⟨rfl, rfl, rfl⟩, rfl, rfl, List.nodup_nil⟩
end
end Dl
end
section
namespace Dl
open PySem PySem.Spec PyProof.Rows L2
section
variable {P : Program} {w : World} {K : PySem.W.Frag} {G0 H : Hp} {T F : Ent} {σ : Sl} {Γ : Gm} {i : Nat} {o : O} {ob : Obj} {xs : KNs} {y : V} {dk : PyData}
theorem Rel.backG (r : Rel K G0 T F σ H Γ) (g : get Γ i = some o) {M : Ent} {v : V} (hv : σ[i]? = some (some v)) (r9 : R K G0 H (M ++ ((v, o) :: (T ++ (ents σ (put Γ i none) ++ F))))) : R K G0 H (M ++ (T ++ (ents σ Γ ++ F))) := by
  obtain ⟨w, q1, q2, q3⟩ := ents_out r.fit g
  rw [hv] at q1
  cases q1
  refine r9.perm (List.Perm.append_left M ?_)
  have q : ((v, o) :: (T ++ (ents σ (put Γ i none) ++ F))).Perm (T ++ ((v, o) :: (ents σ (put Γ i none) ++ F))) := List.perm_middle.symm
  exact q.trans (List.Perm.append_left T (q2.symm.append_right F))
theorem Rel.nd (r : Rel K G0 T F σ H Γ) (g : get Γ i = some o) (hn : IsNd P w K o ob xs) : ∃ d kvs G, σ[i]? = some (some (.ref d)) ∧ H d = some (NO d ob) ∧ Same G H ∧ NdD P w K G d ob kvs ∧ DqN K G kvs xs ∧ (∀ y dk, (y, O.fz dk) ∈ T → Dq K G y dk) ∧
    ∀ u e, Dq K G u e → Rel K G0 ((u, .fz e) :: T) F σ H Γ := by
  obtain ⟨v, h1, h2, h3⟩ := r.out g
  obtain ⟨d, kvs, G, rfl, e1, e2, e3, e4, e5, e6⟩ := R.nd h2 hn
  refine ⟨d, kvs, G, h1, e1, e2, e3, e4, fun y dk m => e5 y dk (List.mem_append_left _ m), fun u e q => ?_⟩
  refine ⟨r.fit, r.al.cons (fun _ z => nomatch z), ?_⟩
  exact Rel.backG (M := [(u, .fz e)]) r g h1 (e6 u e q)
end
end Dl
end
section
namespace Dl
open PySem PySem.Spec PyProof.Rows L2
end Dl
end
section
namespace Dl
open PySem PySem.Spec PyProof.Rows L2
end Dl
end
section
set_option maxHeartbeats 4000000
namespace Dl
open PySem PySem.Spec PyProof.Rows L2
end Dl
end
section
set_option maxHeartbeats 4000000
namespace Dl
open PySem PySem.Spec PyProof.Rows L2
section
variable {X : Cx} {pos p0 : Pos} {x : Str} {τa : TEd} {a : Expr}
theorem flat_vints : ∀ ns : List Int, (ns.map V.int).all flatV = true
  | [] => rfl
  | _ :: ns => by rw [List.map_cons, List.all_cons, flat_vints ns]; rfl
def dIdxI (τo : TEd) (τs : TAd) : TEd := fun Γ Kt => τo Γ fun o Γ1 => ∃ ns : List Int, o = .own (ns.map .int) ∧ τs Γ1 fun os Γ2 => ∃ (y : Int) (j : Nat), os = [.fz (.int y)] ∧ ns[j]? = some y ∧ (∀ m < j, ns[m]? ≠ some y) ∧ Kt (.fz (.int j)) Γ2
theorem de_idxI {o e : Expr} {ap cp : Pos} {τo : TEd} {τs : TAd} (ho : DE X o τo) (ha : DA X [e] τs) (h1 : attributeBase o "index" X.env (eval o X.env) = eval o X.env := by rfl) (h3 : (ap.endLine == cp.line) = true := by rfl)
    (h2 : ((backTo cp (starEach [e] X.env)).all (fun z => !z.1) && (backToKw cp (keywordEach [] X.env)).all (fun z => z.1.isSome) && decide (([e].length + ([] : List Keyword).length + if ([] : List Keyword).isEmpty = true then 0 else 1) < 30)) = true := by rfl)
    (h4 : starEach [e] X.env = (false, eval e X.env) :: starEach [] X.env := by rfl) : DE X (.Call (.Attribute o "index" ap) [e] [] cp) (dIdxI τo τs) :=
  peI (pe_bm PySem.F.plainAttrs_list PySem.F.slot_list_index PySem.F.type_list_index mt_index ho ha h1 h2 h3 h4) fun σ H Q ⟨G0, Γ, T, F, Kt, R1, k, q⟩ => ⟨G0, Γ, T, F, _, R1, k, fun o Γ1 v H1 ⟨ns, eo, k1⟩ R2 => by
    subst eo
    obtain ⟨a, vs, rfl, e1, _⟩ := R.itemsO R2.r
    refine ⟨.inl ⟨rfl, vs, SqL.of e1⟩, G0, Γ1, (.ref a, .own (ns.map .int)) :: T, F, _, R2, k1, fun os Γ2 ws H2 k2 hl R3 => ?_⟩
    obtain ⟨y, j, rfl, hj, hno, k3⟩ := k2
    match ws, hl with
    | [w], _ =>
      have R3 : Rel X.K G0 ((w, .fz (.int y)) :: (.ref a, .own (ns.map .int)) :: T) F σ H2 Γ2 := R3
      obtain rfl := R.int R3.r
      have hd := R.seen R3.drop.r (show see (.own (ns.map .int)) = some (.list (ns.map .int)) from rfl)
      obtain ⟨a', ea, h1⟩ := dq_lint hd
      cases ea
      refine ⟨a, ns.map V.int, .int y, j, .int y, rfl, rfl, SqL.of h1, rfl, flat_vints ns, ?_, ?_, fun m z' hm hz => ?_, q _ Γ2 _ _ k3 (R3.drop.drop.push fun _ => .int _)⟩
      · rw [List.getElem?_map, hj]; rfl
      · show (y == y) = true
        exact beq_self_eq_true y
      · rw [List.getElem?_map] at hz
        obtain ⟨n, hn, rfl⟩ := Option.map_eq_some_iff.mp hz
        show (n == y) = false
        refine beq_eq_false_iff_ne.mpr fun e => hno m hm ?_
        rw [hn, e]⟩
end
end Dl
end
section
set_option maxHeartbeats 4000000
namespace Dl
open PySem PySem.Spec PyProof.Rows L2
section
variable {P : Program} {w : World} {A : Around} {R : Result → Shared → Prop} {s : Shared} {kx vx ta ia tb ib : Expr} {sc : Scope} {pos : Pos} {it : Value} {D : Addr} {env : Env}
/-- the comprehension itself -/
abbrev dcE (kx vx ta ia tb ib : Expr) (sc : Scope) (pos : Pos) : Expr := .DictComp kx vx [⟨ta, ia, [], 0⟩, ⟨tb, ib, [], 0⟩] sc pos
abbrev nbE (P : Program) (w : World) (A : Around) (env : Env) (R : Result → Shared → Prop) : Value → Shared → Prop := notedBy (model P w) A env fun e s' => R (.error e) s'
theorem dcTurnA : compTurn (dcE kx vx ta ia tb ib sc pos) 0 it (.ref D) env = (standAt ia.pos >>= fun _ => pyNext it >>= fun r => match r with
    | none => pure (.done .next)
    | some v => letOwnedTupleGo ta it v >>= fun _ => assign ta env v >>= fun _ => eval ib env >>= fun x => standAt ib.pos >>= fun _ => foldedSetIterable ib env x >>= fun x => holding [x] (pyIter x) >>= fun j =>
      runOwn (.compStart (dcE kx vx ta ia tb ib sc pos) 1 j (.ref D) env) env >>= fun _ => again (.compLoop (dcE kx vx ta ia tb ib sc pos) 0 it (.ref D) env)) := by rfl
theorem dcTurnB : compTurn (dcE kx vx ta ia tb ib sc pos) 1 it (.ref D) env = (standAt ib.pos >>= fun _ => pyNext it >>= fun r => match r with
    | none => pure (.done .next)
    | some v => letOwnedTupleGo tb it v >>= fun _ => assign tb env v >>= fun _ => (eval kx env >>= fun kv => holding [kv] (eval vx env) >>= fun vv => standAt { kx.pos with endLine := vx.pos.endLine, endCol := vx.pos.endCol } >>= fun _ =>
      holding [kv, vv] (dictSet D kv vv)) >>= fun _ => again (.compLoop (dcE kx vx ta ia tb ib sc pos) 1 it (.ref D) env)) := by rfl
theorem dcLoopA (hf : ∀ x, foldedSetIterable ib env x = pure x) (I : Nat → Shared → Prop)
    (turn : ∀ n s, I n s → wpAny (model P w) A (pyNext it) (fun r s1 => match r with
      | none => R (.ok .next) s1
      | some v => wpAny (model P w) A (letOwnedTupleGo ta it v) (fun _ s2 => wpAny (model P w) A (assign ta env v) (fun _ s3 => wpAny (model P w) A (eval ib env) (fun x s4 => wpAny (model P w) A (pyIter x) (fun j s5 =>
          codeAny (model P w) A (.compStart (dcE kx vx ta ia tb ib sc pos) 1 j (.ref D) env) (fun r s' => match r with
            | .ok _ => ∃ m, m < n ∧ I m s'
            | .error _ => False) s5) (nbE P w A env R) s4) (nbE P w A env R) s3) (nbE P w A env R) s2) (nbE P w A env R) s1) (nbE P w A env R) s)
    (n : Nat) (h : I n s) : codeAny (model P w) A (.compLoop (dcE kx vx ta ia tb ib sc pos) 0 it (.ref D) env) R s := by
  refine codeAny_loop rfl I (fun n s hI => ?_) n h
  show wpAny _ A ((compTurn (dcE kx vx ta ia tb ib sc pos) 0 it (.ref D) env).onRaise (fun x => do noteFrame x env; theTreesLotGoes x)) _ _ s
  refine wpAny_noted ?_
  rw [dcTurnA]
  refine wpAny_bind (wpAny_standAt (wpAny_bind (wpAny_mono (turn n s hI) (fun r s1 h1 => ?_) fun _ _ z => z)))
  cases r with
  | none => exact wpAny_pure h1
  | some v =>
    refine wpAny_bind (wpAny_mono h1 (fun _ s2 h2 => wpAny_bind (wpAny_mono h2 (fun _ s3 h3 => wpAny_bind (wpAny_mono h3 (fun x s4 h4 => ?_) fun _ _ z => z)) fun _ _ z => z)) fun _ _ z => z)
    refine wpAny_bind (wpAny_standAt (wpAny_bind (wpAny_of_eq (hf x) (wpAny_bind (wpAny_holding (wpAny_mono h4 (fun j s5 h5 => wpAny_bind (wpAny_runOwn ?_)) fun _ _ z => z))))))
    rw [Around.mark_none]
    refine codeAny_mono h5 fun r s6 hr => ?_
    cases r with
    | ok f => exact wpAny_pure ⟨rfl, hr⟩
    | error e => exact hr.elim
theorem dcLoopB (I : Nat → Shared → Prop)
    (turn : ∀ n s, I n s → wpAny (model P w) A (pyNext it) (fun r s1 => match r with
      | none => R (.ok .next) s1
      | some v => wpAny (model P w) A (letOwnedTupleGo tb it v) (fun _ s2 => wpAny (model P w) A (assign tb env v) (fun _ s3 => wpAny (model P w) A (eval kx env) (fun kv s4 => wpAny (model P w) A (eval vx env) (fun vv s5 =>
          wpAny (model P w) A (dictSet D kv vv) (fun _ s6 => ∃ m, m < n ∧ I m s6) (nbE P w A env R) s5) (nbE P w A env R) s4) (nbE P w A env R) s3) (nbE P w A env R) s2) (nbE P w A env R) s1) (nbE P w A env R) s)
    (n : Nat) (h : I n s) : codeAny (model P w) A (.compLoop (dcE kx vx ta ia tb ib sc pos) 1 it (.ref D) env) R s := by
  refine codeAny_loop rfl I (fun n s hI => ?_) n h
  show wpAny _ A ((compTurn (dcE kx vx ta ia tb ib sc pos) 1 it (.ref D) env).onRaise (fun x => do noteFrame x env; theTreesLotGoes x)) _ _ s
  refine wpAny_noted ?_
  rw [dcTurnB]
  refine wpAny_bind (wpAny_standAt (wpAny_bind (wpAny_mono (turn n s hI) (fun r s1 h1 => ?_) fun _ _ z => z)))
  cases r with
  | none => exact wpAny_pure h1
  | some v =>
    refine wpAny_bind (wpAny_mono h1 (fun _ s2 h2 => wpAny_bind (wpAny_mono h2 (fun _ s3 h3 => wpAny_bind (wpAny_bind (wpAny_mono h3 (fun kv s4 h4 => ?_) fun _ _ z => z))) fun _ _ z => z)) fun _ _ z => z)
    exact wpAny_bind (wpAny_holding (wpAny_mono h4 (fun vv s5 h5 => wpAny_bind (wpAny_standAt (wpAny_holding (wpAny_mono h5 (fun _ s6 h6 => wpAny_pure ⟨rfl, h6⟩) fun _ _ z => z)))) fun _ _ z => z))
theorem dcStartB (h0 : codeAny (model P w) A (.compLoop (dcE kx vx ta ia tb ib sc pos) 1 it (.ref D) env) R s)
    (h : wpAny (model P w) A (pyIter it) (fun j s' => codeAny (model P w) A (.compLoop (dcE kx vx ta ia tb ib sc pos) 1 j (.ref D) env) R s') (nbE P w A env R) s) :
    codeAny (model P w) A (.compStart (dcE kx vx ta ia tb ib sc pos) 1 it (.ref D) env) R s := by
  refine codeAny_of_tree ?_
  show wpAny _ _ ((compStart (dcE kx vx ta ia tb ib sc pos) 1 it (.ref D) env).onRaise (fun x => do noteFrame x env; standAt theWindowsPlace)) _ _ s
  refine wpAny_notedAt ?_
  unfold compStart
  show wpAny _ _ (ask >>= _) _ _ s
  refine wpAny_bind (wpAny_askSetting (wpAny_ite ?_))
  split
  · first
      | exact wpAny_pure ⟨rfl, h0⟩
      | exact wpAny_bind (wpAny_pure (wpAny_pure ⟨rfl, h0⟩))
  · refine wpAny_bind (wpAny_rule ?_)
    show wpAny _ _ (standAt ib.pos >>= _) _ _ s
    exact wpAny_bind (wpAny_standAt (wpAny_bind (wpAny_mono h (fun j s' z => wpAny_pure ⟨rfl, z⟩) fun _ _ z => z)))
end
section
variable {X : Cx}
abbrev BlkAll (X : Cx) (sc : Scope) (T : Cx → Prop) : Prop := ∀ (s : Shared) (H : Hp) (C : Addr) (cl : List (Str × Addr)) (fp : List Addr), T (X.blk s H sc (compEnvC sc cl C X.env) fp)
def tDc2 (wa : TI) (ga : TG) (wb : TI) (gb : TG) (tk tv : TE) (vs vs1 : List Nat) : TE := fun σ H Q => wa σ H fun J H1 => ∀ D, H1 D = none → ∃ W : Nat → Nat → Hp → Prop, (∃ m, W 0 m (upd H1 D (.dK []))) ∧ ∀ i m H, W i m H →
  (J.stop i H ∧ Q (.ref D) H) ∨ (J.go i H ∧ ∃ Nx : Hp → Prop, (∀ H', Nx H' → ∃ m', m' < m ∧ W (i + 1) m' H') ∧ ∀ x H', J.yld i H x H' → ga x (wipe σ vs) H' fun σ2 H2 => wipe σ2 vs = wipe σ vs ∧
    wb σ2 H2 fun J1 H4 => ∃ W1 : Nat → Nat → Hp → Prop, (∃ m, W1 0 m H4) ∧ ∀ j k H, W1 j k H →
      (J1.stop j H ∧ Nx H) ∨ (J1.go j H ∧ ∃ Nx1 : Hp → Prop, (∀ H', Nx1 H' → ∃ k', k' < k ∧ W1 (j + 1) k' H') ∧ ∀ x H', J1.yld j H x H' → gb x (wipe σ2 vs1) H' fun σ3 H5 => wipe σ3 vs1 = wipe σ2 vs1 ∧
        tk σ3 H5 fun y H6 => tv σ3 H6 fun z H7 => ∃ kvs q, y = kV q ∧ H7 D = some (.dK kvs) ∧ kvs.length < sizeLine ∧ Nx1 (upd H7 D (.dK (putK kvs q z)))))
theorem pe_dc2 {kx vx ta ia tb ib : Expr} {sc : Scope} {own : List (Str × Nat)} {vs1 : List Nat} {pos : Pos} {wa wb : TI} {ga gb : TG} {tk tv : TE} (hc : X.calm = true) (hN : X.N.Nodup) (hi : PI X ta ia wa) (ok : BlkOk X.N X.env.scope sc own) (hv : ∀ i ∈ vs1, i ∈ own.map (·.2))
    (hga : BlkAll X sc fun Y => PG Y ta ga) (hib : BlkAll X sc fun Y => PI Y tb ib wb) (hgb : BlkAll X sc fun Y => PG Y tb gb) (hk : BlkAll X sc fun Y => PE Y kx tk) (hx : BlkAll X sc fun Y => PE Y vx tv)
    (hs : ∀ x, foldedSetIterable ia X.env x = pure x := by intro _; rfl) (hs1 : ∀ env x, foldedSetIterable ib env x = pure x := by intro _ _; rfl) :
    PE X (dcE kx vx ta ia tb ib sc pos) (tDc2 wa ga wb gb tk tv (own.map (·.2)) vs1) := by
  refine ⟨fun pins s σ H Q I h => ?_⟩
  rw [show dcE kx vx ta ia tb ib sc pos = .DictComp kx vx [⟨ta, ia, [], 0⟩, ⟨tb, ib, [], 0⟩] sc pos from rfl, arm_eval_DictComp]
  have clo : ∀ y ∈ sc.names, y.2 = .free → ∃ c, X.env.cells.lookup y.1 = some c := fun y hy e => (ok.free y hy e).elim (fun k => I.ok.has _ (.inl k)) fun k => I.ok.has _ (.inr k)
  refine wpAny_comprehension_free rfl hs (closure_ok clo) ok.kind (fun y hy e => by rw [ok.uniq y hy, e]) (thn (hi.run pins s σ H _ I h) fun xv s1 hx1 => thn hx1 fun itv s2 h2 => ?_)
  obtain ⟨it, fq, tn, J, H2, e, I2, T, st2, f2, q⟩ := h2
  subst e
  refine wpAny_newObj_type (newEnv_comp ?_)
  generalize hD : s2.heap.objs.size = D
  have dn : H2 D = none := I2.hok.fresh (Nat.le_of_eq hD)
  obtain ⟨W, ⟨m0, w0⟩, turn⟩ := q D dn
  generalize hs3 : ({ s2 with heap := s2.heap.push { cls := .type "dict", data := .dict #[] } } : Shared) = s3
  have J3 : Inv X pins σ (upd H2 D (.dK [])) s3 := by
    rw [← hs3]
    refine I2.laid (t' := s2.toks) (fun b o z => Heap.get?_push_of_some _ z) (Nat.le_of_eq hD) ?_
    rw [← hD]
    exact dk_empty s2.heap I2.big
  have e3 : s3.heap = s2.heap.push { cls := .type "dict", data := .dict #[] } := by rw [← hs3]
  have f3 : ∀ b ∈ fq, FpOk X pins (upd H2 D (.dK [])) b ∧ b < s3.heap.objs.size := fun b hb => by
    obtain ⟨o, z, _⟩ := T.obj _ _ st2 b hb
    have lb : b < s2.heap.objs.size := Heap.lt_size z
    exact ⟨⟨by rw [upd_ne (by rw [← hD]; exact Nat.ne_of_lt lb)]; exact (f2 b hb).1, (f2 b hb).2⟩, by rw [e3, Heap.size_push]; exact Nat.lt_succ_of_lt lb⟩
  have tn3 : tn 0 s3.heap := T.keep _ _ _ st2 fun b _ o z => by rw [e3]; exact Heap.get?_push_of_some _ z
  have B0 := block_start J3 ok hN f3
  have pga := hga s3 (upd H2 D (.dK [])) s3.heap.objs.size (cellsFrom (s3.heap.objs.size + 1) sc.names (cloFrom X.env.cells sc.names [])) fq
  have pib := hib s3 (upd H2 D (.dK [])) s3.heap.objs.size (cellsFrom (s3.heap.objs.size + 1) sc.names (cloFrom X.env.cells sc.names [])) fq
  have pgb := hgb s3 (upd H2 D (.dK [])) s3.heap.objs.size (cellsFrom (s3.heap.objs.size + 1) sc.names (cloFrom X.env.cells sc.names [])) fq
  have pk := hk s3 (upd H2 D (.dK [])) s3.heap.objs.size (cellsFrom (s3.heap.objs.size + 1) sc.names (cloFrom X.env.cells sc.names [])) fq
  have px := hx s3 (upd H2 D (.dK [])) s3.heap.objs.size (cellsFrom (s3.heap.objs.size + 1) sc.names (cloFrom X.env.cells sc.names [])) fq
  have nfq : ∀ b ∈ fq, (upd H2 D (.dK [])) b = none := fun b hb => (f3 b hb).1.1
  have fin0 : ∀ (H' : Hp) (s' : Shared) (m : Str → Option Value), Inv X pins σ H' s' → Q (.ref D) H' → s'.heap.Ns s3.heap.objs.size m → FpOk X pins H' s3.heap.objs.size → compPost (model X.prog X.w) X.A X.xe none (EP X pins σ Q) (.ref D) s3.heap.objs.size (.ok .next) s' := fun H' s' m I' q' hn f => ⟨m, hn, fun k' sb => by
    obtain ⟨g0, g1, g2, g3, g4, g5⟩ := f
    exact ⟨.ref D, H', I'.turned (t' := s'.toks) (fun b o hb z => (sb.2 b hb).trans z) g0 g1 g3 g4 g5, rfl, q'⟩⟩
  show codeAny _ _ (.compStart (dcE kx vx ta ia tb ib sc pos) 0 (.ref it) (.ref D) (compEnvC sc (cellsFrom (s3.heap.objs.size + 1) sc.names (cloFrom X.env.cells sc.names [])) s3.heap.objs.size X.env)) (compPost (model X.prog X.w) X.A X.xe none (EP X pins σ Q) (.ref D) s3.heap.objs.size) { s3 with heap := pushCells (s3.heap.push { cls := .type "dict", data := .dict #[] }) sc.names }
  generalize hce : compEnvC sc (cellsFrom (s3.heap.objs.size + 1) sc.names (cloFrom X.env.cells sc.names [])) s3.heap.objs.size X.env = ce at B0 pga pib pgb pk px ⊢
  have eL : ce.locals = s3.heap.objs.size := by subst hce; rfl
  generalize hH3 : upd H2 D (.dK []) = H3 at J3 B0 pga pib pgb pk px w0 nfq f3
  generalize hs4 : ({ s3 with heap := pushCells (s3.heap.push { cls := .type "dict", data := .dict #[] }) sc.names } : Shared) = s4 at B0 ⊢
  have tn4 : tn 0 s4.heap := T.keep _ _ _ tn3 fun b _ o z => by rw [← hs4]; exact pushCells_keeps _ _ _ _ (Heap.get?_push_of_some _ z)
  have fpk : ∀ {σ' : L2.St} {H' : Hp} {s' : Shared}, Inv (X.blk s3 H3 sc ce fq) [] σ' H' s' → (∀ b ∈ fq, H' b = none) → ∀ b ∈ fq, FpOk (X.blk s3 H3 sc ce fq) [] H' b := fun {σ' H' s'} I' hn b hb =>
    ⟨hn b hb, (I'.ok.exf b hb).1, I'.ok.exfs b hb, .inl hb, fun x c z => (I'.ok.exf b hb).2 x c z, fun p hp => absurd (show p ∈ ([] : List (Addr × Obj)) ++ [] from hp) (by simp)⟩
  have outer : codeAny (model X.prog X.w) X.A (.compLoop (dcE kx vx ta ia tb ib sc pos) 0 (.ref it) (.ref D) ce) (compPost (model X.prog X.w) X.A X.xe none (EP X pins σ Q) (.ref D) s3.heap.objs.size) s4 := by
    refine dcLoopA (hs1 ce) (fun n s' => ∃ i H', Inv (X.blk s3 H3 sc ce fq) [] (wipe σ (own.map (·.2))) H' s' ∧ tn i s'.heap ∧ (∀ b ∈ fq, H' b = none) ∧ W i n H') ?_ m0 ⟨0, H3, B0, tn4, nfq, w0⟩
    rintro n s5 ⟨i, H5, I5, t5, n5, w5⟩
    rcases turn i n H5 w5 with ⟨stop, qq⟩ | ⟨go, Nx, hNx, step⟩
    · refine thnF (T.done (X.blk s3 H3 sc ce fq) rfl rfl rfl hc i [] s5 _ H5 (fun _ _ => False) I5 (fpk I5 n5) t5 stop) fun r s6 ⟨hr, I6⟩ => ?_
      subst hr
      have I7 : Inv X pins σ H5 s6 := J3.call' (ch := fq) I6.os I6.base I6.hok I6.bare fun b hb => ⟨(f3 b hb).1.2.2.2.1, (f3 b hb).1.2.1, (f3 b hb).1.2.2.2.2.1, (f3 b hb).1.2.2.2.2.2⟩
      have nC : H5 s3.heap.objs.size = none := by
        have z : H5 ce.locals = none := I6.free
        rw [eL] at z
        exact z
      obtain ⟨m, hn, _⟩ := I6.loc
      have hn : s6.heap.Ns ce.locals m := hn
      rw [eL] at hn
      exact fin0 H5 s6 m I7 qq hn (J3.fpOk (Nat.le_refl _) nC)
    · refine thnF (T.item (X.blk s3 H3 sc ce fq) rfl rfl rfl hc i [] s5 _ H5 (fun _ _ => False) I5 (fpk I5 n5) t5 go) fun r s6 ⟨u, hr, h6⟩ => ?_
      subst hr
      refine thnF h6 fun _ s7 ⟨x, H7, I7, r7, y7, t7, n7⟩ => ?_
      have I7p := I7.pinned (fpk I7 n7) (T.obj _ _ t7)
      refine thnF (pga.run _ s7 _ H7 x u _ I7p r7 (step x H7 y7)) fun _ s8 ⟨σ8, H8, I8, hw8, q8⟩ => ?_
      have back : ∀ {σ9 : L2.St} {s' : Shared} {H' : Hp}, Inv (X.blk s3 H3 sc ce fq) ([] ++ pinsAt fq s7.heap) σ9 H' s' → (wipe σ (own.map (·.2))).length = σ9.length → (∀ (j : Nat) v, (wipe σ (own.map (·.2)))[j]? = some (some v) → σ9[j]? = some (some v)) → Nx H' →
          ∃ m, m < n ∧ ∃ i H', Inv (X.blk s3 H3 sc ce fq) [] (wipe σ (own.map (·.2))) H' s' ∧ tn i s'.heap ∧ (∀ b ∈ fq, H' b = none) ∧ W i m H' := fun {σ9 s' H'} I' hl hkk nx => by
        obtain ⟨m', hm, w'⟩ := hNx H' nx
        have pp : ∀ b ∈ fq, ∀ o, s7.heap.get? b = some o → s'.heap.get? b = some o ∧ H' b = none := fun b hb o z =>
          have y := I'.pin (b, o) (List.mem_append_right _ (List.mem_append_right _ (mem_pinsAt hb z)))
          ⟨y.1, y.2.1⟩
        refine ⟨m', hm, i + 1, H', (I'.unpinned (pins := [])).weak hl hkk, T.keep _ _ _ t7 fun b hb o z => (pp b hb o z).1, fun b hb => ?_, w'⟩
        obtain ⟨o, z, _⟩ := T.obj _ _ t7 b hb
        exact (pp b hb o z).2
      have l8 : (wipe σ (own.map (·.2))).length = σ8.length := by rw [← hw8, wipe_length]
      have k9 : ∀ (j : Nat) v, (wipe σ (own.map (·.2)))[j]? = some (some v) → (wipe σ8 vs1)[j]? = some (some v) := fun j v z => by
        rw [← hw8] at z
        obtain ⟨z1, z2⟩ := wipe_some z
        rw [wipe_out fun y => z2 (hv j y)]
        exact z1
      refine thnF (pib.run _ s8 σ8 H8 _ I8 q8) fun xv s10 hx10 => thnF hx10 fun itv s11 h11 => ?_
      obtain ⟨it1, fq1, tn1, J1, H11, e1, I11, T1, t11, f11, W1, ⟨m1, w1⟩, turn1⟩ := h11
      subst e1
      have fpk1 : ∀ {H' : Hp}, (∀ b ∈ fq1, H' b = none) → ∀ b ∈ fq1, FpOk (X.blk s3 H3 sc ce fq) ([] ++ pinsAt fq s7.heap) H' b := fun hn b hb => ⟨hn b hb, (f11 b hb).2⟩
      have inner : codeAny (model X.prog X.w) X.A (.compLoop (dcE kx vx ta ia tb ib sc pos) 1 (.ref it1) (.ref D) ce) (fun r s' => match r with
          | .ok _ => ∃ m, m < n ∧ ∃ i H', Inv (X.blk s3 H3 sc ce fq) [] (wipe σ (own.map (·.2))) H' s' ∧ tn i s'.heap ∧ (∀ b ∈ fq, H' b = none) ∧ W i m H'
          | .error _ => False) s11 := by
        refine dcLoopB (fun k s' => ∃ j H', Inv (X.blk s3 H3 sc ce fq) ([] ++ pinsAt fq s7.heap) (wipe σ8 vs1) H' s' ∧ tn1 j s'.heap ∧ (∀ b ∈ fq1, H' b = none) ∧ W1 j k H') ?_ m1 ⟨0, H11, I11.weak (wipe_length _ _) (fun j v z => (wipe_some z).1), t11, fun b hb => (f11 b hb).1, w1⟩
        rintro k s12 ⟨j, H12, I12, t12, n12, w12⟩
        rcases turn1 j k H12 w12 with ⟨stop1, nx1⟩ | ⟨go1, Nx1, hNx1, step1⟩
        · refine thnF (T1.done (X.blk s3 H3 sc ce fq) rfl rfl rfl hc j _ s12 (wipe σ8 vs1) H12 (fun _ _ => False) I12 (fpk1 n12) t12 stop1) fun r s13 ⟨hr, I13⟩ => ?_
          subst hr
          exact back I13 (l8.trans (wipe_length σ8 vs1).symm) k9 nx1
        · refine thnF (T1.item (X.blk s3 H3 sc ce fq) rfl rfl rfl hc j _ s12 (wipe σ8 vs1) H12 (fun _ _ => False) I12 (fpk1 n12) t12 go1) fun r s13 ⟨u1, hr, h13⟩ => ?_
          subst hr
          refine thnF h13 fun _ s14 ⟨x1, H14, I14, r14, y14, t14, n14⟩ => ?_
          have I14p := I14.pinned (fpk1 n14) (T1.obj _ _ t14)
          refine thnF (pgb.run _ s14 (wipe σ8 vs1) H14 x1 u1 _ I14p r14 (step1 x1 H14 y14)) fun _ s15 ⟨σ15, H15, I15, hw15, q15⟩ => ?_
          refine thnF (pk.run _ s15 σ15 H15 _ I15 q15) fun zk s16 ⟨yk, H16, I16, r16, q16⟩ => ?_
          refine thnF (px.run _ s16 σ15 H16 _ I16 q16) fun zv s17 ⟨yv, H17, I17, r17, kvs, kq, ek, hD17, hz17, nx⟩ => ?_
          subst ek
          refine d_dictSet (X := X.blk s3 H3 sc ce fq) I17 hD17 hz17 r16 r17 fun s18 I18 => ?_
          obtain ⟨m', hm, w'⟩ := hNx1 _ nx
          have pp : ∀ b ∈ fq1, ∀ o, s14.heap.get? b = some o → s18.heap.get? b = some o ∧ (upd H17 D (.dK (putK kvs kq yv))) b = none := fun b hb o z =>
            have y := I18.pin (b, o) (List.mem_append_right _ (List.mem_append_right _ (mem_pinsAt hb z)))
            ⟨y.1, y.2.1⟩
          refine ⟨m', hm, j + 1, _, I18.unpinned.weak (by rw [← hw15, wipe_length]) (fun j v z => by rw [← hw15] at z; exact (wipe_some z).1), T1.keep _ _ _ t14 fun b hb o z => (pp b hb o z).1, fun b hb => ?_, w'⟩
          obtain ⟨o, z, _⟩ := T1.obj _ _ t14 b hb
          exact (pp b hb o z).2
      exact dcStartB inner (T1.self X.A 0 _ _ _ t11 inner)
  exact codeAny_compStart_dict outer (T.self X.A 0 _ _ _ tn4 outer)
end
end Dl
end
section
namespace Dl
open PySem PySem.Spec PyProof.Rows L2
section
variable {X : Cx} {pos : Pos}
def dcTurn (γ : TGd) (tk te : TEd) (vs : List Nat) (n : Nat) (it : Nat → PyData) (Jv : Nat → KVs → Gm → Prop) : Prop := ∀ j acc Γ2, j < n → Jv j acc Γ2 → γ (it j) Γ2 fun Γ3 => tk Γ3 fun p Γ4 => ∃ k : Key, keyO p = some k ∧ te Γ4 fun o Γ5 => esc Γ5 o fun d Γ6 => acc.length < sizeLine ∧ Jv (j + 1) (ptD acc (keyD k) d) (wipeG Γ6 vs)
theorem dc_in {K : PySem.W.Frag} {G0 : Hp} {S F : Ent} {σ : Sl} {vs ws : List Nat} {n : Nat} {it : Nat → PyData} {J : It} {Nx : Hp → Prop} {γ : TGd} {tk te : TEd} {D : Addr} {Jv : Nat → KVs → Gm → Prop} {acc0 : KVs} {Γ0 : Gm} {H : Hp}
    (hw : ∀ i ∈ ws, i ∈ vs) (fd : Feeds K J n it S) (i0 : Jv 0 acc0 Γ0) (is : dcTurn γ tk te vs n it Jv) (r1 : Rel K G0 [] ((.ref D, .dct acc0) :: (S ++ F)) (wipe σ vs) H Γ0)
    (ie : ∀ acc Γ H, Jv n acc Γ → Rel K G0 [] ((.ref D, .dct acc) :: (S ++ F)) (wipe σ vs) H Γ → Nx H) :
    ∃ W1 : Nat → Nat → Hp → Prop, (∃ m, W1 0 m H) ∧ ∀ j k H, W1 j k H →
      (J.stop j H ∧ Nx H) ∨ (J.go j H ∧ ∃ Nx1 : Hp → Prop, (∀ H', Nx1 H' → ∃ k', k' < k ∧ W1 (j + 1) k' H') ∧ ∀ x H', J.yld j H x H' → (liftG K ws γ) x (wipe σ vs) H' fun σ3 H5 => wipe σ3 vs = wipe σ vs ∧
        (liftE K tk) σ3 H5 fun y H6 => (liftE K te) σ3 H6 fun z H7 => ∃ kvs q, y = kV q ∧ H7 D = some (.dK kvs) ∧ kvs.length < sizeLine ∧ Nx1 (upd H7 D (.dK (putK kvs q z)))) := by
  have pq : ∀ M N L : Ent, (M ++ (N ++ L)).Perm (N ++ (M ++ L)) := fun M N L => by
    rw [← List.append_assoc, ← List.append_assoc]
    exact List.perm_append_comm.append_right L
  have rS : ∀ {M : Ent} {σ H Γ}, Rel K G0 [] (M ++ (S ++ F)) σ H Γ → R K G0 H (S ++ (M ++ (ents σ Γ ++ F))) := fun {M σ H Γ} r => r.r.perm (by
    show (ents σ Γ ++ (M ++ (S ++ F))).Perm (S ++ (M ++ (ents σ Γ ++ F)))
    refine (pq (ents σ Γ) M _).trans ?_
    refine (List.Perm.append_left M (pq (ents σ Γ) S F)).trans ?_
    exact pq M S _)
  refine ⟨fun i m H => m = n - i ∧ i ≤ n ∧ ∃ acc Γ, Jv i acc Γ ∧ Rel K G0 [] ((.ref D, .dct acc) :: (S ++ F)) (wipe σ vs) H Γ, ⟨n, rfl, Nat.zero_le _, acc0, _, i0, r1⟩, ?_⟩
  rintro i m H2 ⟨rfl, hle, acc, Γ2, iv, R3⟩
  by_cases hlt : i < n
  · obtain ⟨g1, g2⟩ := fd.step (rS (M := [(.ref D, .dct acc)]) R3) hlt
    refine .inr ⟨g1, fun H' => ∃ acc Γ, Jv (i + 1) acc Γ ∧ Rel K G0 [] ((.ref D, .dct acc) :: (S ++ F)) (wipe σ vs) H' Γ, fun H' h => ⟨n - (i + 1), by omega, rfl, hlt, h⟩, fun x H' hy => ?_⟩
    have r4 := g2 x H' hy
    have R4 : Rel K G0 [] ((x, .fz (it i)) :: ((.ref D, .dct acc) :: (S ++ F))) (wipe σ vs) H' Γ2 := ⟨R3.fit, R3.al, r4.perm (by
      show ((x, O.fz (it i)) :: (S ++ ([(V.ref D, O.dct acc)] ++ (ents (wipe σ vs) Γ2 ++ F)))).Perm (ents (wipe σ vs) Γ2 ++ ([(x, O.fz (it i))] ++ ([(V.ref D, O.dct acc)] ++ (S ++ F))))
      refine List.Perm.trans ?_ (pq [(x, O.fz (it i))] (ents (wipe σ vs) Γ2) _)
      refine List.Perm.cons _ ?_
      refine (pq S [(V.ref D, O.dct acc)] _).trans ?_
      refine List.Perm.trans ?_ (pq [(V.ref D, O.dct acc)] (ents (wipe σ vs) Γ2) _)
      refine List.Perm.cons _ ?_
      exact pq S _ F)⟩
    refine ⟨G0, Γ2, (.ref D, .dct acc) :: (S ++ F), it i, _, R4, is i acc Γ2 hlt iv, fun Γ3 σ3 H3 k3 ag R5 => ⟨?_, G0, Γ3, [], _, _, R5, k3, fun p Γ5 y H5 k5 R7 => ?_⟩⟩
    · rw [agree_wipe ag hw]
      exact dc_read.wipe_wipe σ vs
    · have hw3 : wipe σ3 vs = wipe σ vs := by rw [agree_wipe ag hw]; exact dc_read.wipe_wipe σ vs
      obtain ⟨k, hk, k5⟩ := k5
      have ey : y = kV k := key_at R7 hk
      refine ⟨G0, Γ5, [], _, _, R7.drop, k5, fun o Γ6 z H6 k6 R8 => ?_⟩
      obtain ⟨d, Γ7, ⟨z1, k7⟩, R9⟩ := R8.escape k6
      have r9 : R K G0 H6 ((.ref D, .dct acc) :: ((z, .fz d) :: (ents σ3 Γ7 ++ (S ++ F)))) := R9.r.perm (by
        show ((z, O.fz d) :: (ents σ3 Γ7 ++ ((V.ref D, O.dct acc) :: (S ++ F)))).Perm ((V.ref D, O.dct acc) :: (z, O.fz d) :: (ents σ3 Γ7 ++ (S ++ F)))
        exact (List.Perm.cons _ List.perm_middle).trans (.swap _ _ _))
      obtain ⟨a, kvs, e0, e1, e2, e3⟩ := R.dput r9
      cases e0
      refine ⟨kvs, k, ey, e1, by rw [e2]; exact z1, ptD acc (keyD k) d, _, k7, ?_⟩
      have R10 : Rel K G0 [] ((.ref D, .dct (ptD acc (keyD k) d)) :: (S ++ F)) σ3 (upd H6 D (.dK (putK kvs k z))) Γ7 := ⟨R9.fit, fun _ _ m => by simp at m, (e3 k).perm (by
        exact List.perm_middle.symm)⟩
      rw [← hw3]
      exact R10.wiped vs
  · obtain rfl : i = n := by omega
    exact .inl ⟨fd.stop (rS (M := [(.ref D, .dct acc)]) R3), ie acc Γ2 H2 iv R3⟩
def dDc2 (τi : TId) (γ : TGd) (τi1 : TId) (γ1 : TGd) (tk te : TEd) (vs vs1 : List Nat) : TEd := fun Γ Kt => τi Γ fun n it Γ1 => ∃ Iv : Nat → KVs → Gm → Prop, Iv 0 [] (wipeG Γ1 vs) ∧
  (∀ i acc Γ2, i < n → Iv i acc Γ2 → γ (it i) Γ2 fun Γ3 => τi1 Γ3 fun n1 it1 Γ5 => ∃ Jv : Nat → KVs → Gm → Prop, Jv 0 acc (wipeG Γ5 vs1) ∧ dcTurn γ1 tk te vs1 n1 it1 Jv ∧ ∀ acc' Γ6, Jv n1 acc' Γ6 → Iv (i + 1) acc' (wipeG Γ6 vs)) ∧
  ∀ acc Γ2, Iv n acc Γ2 → Kt (.dct acc) Γ2
variable {tg iter tg1 iter1 : Expr} {kx vx : Expr} {scope : Scope} {own : List (Str × Nat)} {ws ws1 : List Nat} {τi τi1 : TId} {γ γ1 : TGd} {tk te : TEd}
theorem dc2_read {K : PySem.W.Frag} {vs vs1 : List Nat} {σ : Sl} {H : Hp} {Q : VK} (hw : ∀ i ∈ ws, i ∈ vs) (hw1 : ∀ i ∈ ws1, i ∈ vs1) (h : liftE K (dDc2 τi γ τi1 γ1 tk te vs vs1) σ H Q) : tDc2 (liftI K τi) (liftG K ws γ) (liftI K τi1) (liftG K ws1 γ1) (liftE K tk) (liftE K te) (vs) (vs1) σ H Q := by
  obtain ⟨G0, Γ, T, F, Kt, R1, k, q⟩ := h
  refine ⟨G0, Γ, T, F, _, R1, k, fun n it Γ1 J S H1 ⟨Iv, i0, is, ie⟩ fd R2 D hD => ?_⟩
  have r0 : Rel K G0 [] (T ++ (S ++ F)) (wipe σ vs) H1 (wipeG Γ1 vs) := (Rel.allF R2).wiped vs
  have r1 : Rel K G0 [] ((.ref D, .dct []) :: (T ++ (S ++ F))) (wipe σ vs) (upd H1 D (.dK [])) (wipeG Γ1 vs) := Rel.toF' (T := []) (o := .dct []) ⟨r0.fit, r0.al.cons (by intro _ z; cases z), R.newDD r0.r hD⟩
  have pq : ∀ M N L : Ent, (M ++ (N ++ L)).Perm (N ++ (M ++ L)) := fun M N L => by
    rw [← List.append_assoc, ← List.append_assoc]
    exact List.perm_append_comm.append_right L
  have rS : ∀ {M : Ent} {σ H Γ}, Rel K G0 [] (M ++ (T ++ (S ++ F))) σ H Γ → R K G0 H (S ++ (M ++ (T ++ (ents σ Γ ++ F)))) := fun {M σ H Γ} r => r.r.perm (by
    show (ents σ Γ ++ (M ++ (T ++ (S ++ F)))).Perm (S ++ (M ++ (T ++ (ents σ Γ ++ F))))
    refine (pq (ents σ Γ) M _).trans ?_
    refine (List.Perm.append_left M ((pq (ents σ Γ) T _).trans (List.Perm.append_left T (pq (ents σ Γ) S F)))).trans ?_
    refine (List.Perm.append_left M (pq T S _)).trans (pq M S _))
  refine ⟨fun i m H => m = n - i ∧ i ≤ n ∧ ∃ acc Γ, Iv i acc Γ ∧ Rel K G0 [] ((.ref D, .dct acc) :: (T ++ (S ++ F))) (wipe σ vs) H Γ, ⟨n, rfl, Nat.zero_le _, [], _, i0, r1⟩, ?_⟩
  rintro i m H2 ⟨rfl, hle, acc, Γ2, iv, R3⟩
  by_cases hlt : i < n
  · obtain ⟨g1, g2⟩ := fd.step (rS (M := [(.ref D, .dct acc)]) R3) hlt
    refine .inr ⟨g1, fun H' => ∃ acc Γ, Iv (i + 1) acc Γ ∧ Rel K G0 [] ((.ref D, .dct acc) :: (T ++ (S ++ F))) (wipe σ vs) H' Γ, fun H' h => ⟨n - (i + 1), by omega, rfl, hlt, h⟩, fun x H' hy => ?_⟩
    have r4 := g2 x H' hy
    have R4 : Rel K G0 [] ((x, .fz (it i)) :: ((.ref D, .dct acc) :: (T ++ (S ++ F)))) (wipe σ vs) H' Γ2 := ⟨R3.fit, R3.al, r4.perm (by
      show ((x, O.fz (it i)) :: (S ++ ([(V.ref D, O.dct acc)] ++ (T ++ (ents (wipe σ vs) Γ2 ++ F))))).Perm (ents (wipe σ vs) Γ2 ++ ([(x, O.fz (it i))] ++ ([(V.ref D, O.dct acc)] ++ (T ++ (S ++ F)))))
      refine List.Perm.trans ?_ (pq [(x, O.fz (it i))] (ents (wipe σ vs) Γ2) _)
      refine List.Perm.cons _ ?_
      refine (pq S [(V.ref D, O.dct acc)] _).trans ?_
      refine List.Perm.trans ?_ (pq [(V.ref D, O.dct acc)] (ents (wipe σ vs) Γ2) _)
      refine List.Perm.cons _ ?_
      refine (pq S T _).trans ?_
      refine List.Perm.trans ?_ (pq T (ents (wipe σ vs) Γ2) _)
      exact List.Perm.append_left T (pq S _ F))⟩
    refine ⟨G0, Γ2, (.ref D, .dct acc) :: (T ++ (S ++ F)), it i, _, R4, is i acc Γ2 hlt iv, fun Γ3 σ3 H3 k3 ag R5 => ⟨?_, G0, Γ3, [], _, _, R5, k3, fun n1 it1 Γ5 J1 S1 H5 ⟨Jv, j0, js, je⟩ fd1 R7 => ?_⟩⟩
    · rw [agree_wipe ag hw]
      exact dc_read.wipe_wipe σ vs
    · have hw3 : wipe σ3 vs = wipe σ vs := by rw [agree_wipe ag hw]; exact dc_read.wipe_wipe σ vs
      have R7 : Rel K G0 [] (S1 ++ ((.ref D, .dct acc) :: (T ++ (S ++ F)))) σ3 H5 Γ5 := R7
      have R8 : Rel K G0 [] ((.ref D, .dct acc) :: (S1 ++ (T ++ (S ++ F)))) σ3 H5 Γ5 := ⟨R7.fit, R7.al, R7.r.perm (List.Perm.append_left (ents σ3 Γ5) List.perm_middle)⟩
      refine dc_in (F := T ++ (S ++ F)) hw1 fd1 j0 js (R8.wiped vs1) fun acc' Γ6 H6 jv R9 => ⟨acc', _, je acc' Γ6 jv, ?_⟩
      obtain ⟨f1, f2⟩ := fit_unwipe R9.fit
      have R10 : Rel K G0 [] ((.ref D, .dct acc') :: (S1 ++ (T ++ (S ++ F)))) σ3 H6 Γ6 := ⟨f1, fun _ _ m => by simp at m, by
        show R K G0 H6 (ents σ3 Γ6 ++ _)
        rw [f2]
        exact R9.r⟩
      have R11 : Rel K G0 [] (S1 ++ ((.ref D, .dct acc') :: (T ++ (S ++ F)))) σ3 H6 Γ6 := ⟨R10.fit, R10.al, R10.r.perm (List.Perm.append_left (ents σ3 Γ6) List.perm_middle.symm)⟩
      rw [← hw3]
      exact (R11.dropF).wiped vs
  · obtain rfl : i = n := by omega
    have fr := fd.stop (rS (M := [(.ref D, .dct acc)]) R3)
    refine .inl ⟨fr, ?_⟩
    obtain ⟨f1, f2⟩ := fit_unwipe R3.fit
    have R4 : Rel K G0 [] ((.ref D, .dct acc) :: (T ++ (S ++ F))) σ H2 Γ2 := ⟨f1, fun _ _ m => by simp at m, by
      show R K G0 H2 (ents σ Γ2 ++ _)
      rw [f2]
      exact R3.r⟩
    have R5 : Rel K G0 T (S ++ ((.ref D, .dct acc) :: F)) σ H2 Γ2 := Rel.unallF R2.al ⟨R4.fit, R4.al, R4.r.perm (by
      show (ents σ Γ2 ++ ((V.ref D, O.dct acc) :: (T ++ (S ++ F)))).Perm (ents σ Γ2 ++ (T ++ (S ++ ((V.ref D, O.dct acc) :: F))))
      refine List.Perm.append_left _ ?_
      refine List.Perm.trans ?_ (List.Perm.append_left T List.perm_middle.symm)
      exact List.perm_middle.symm)⟩
    exact q _ Γ2 _ H2 (ie acc Γ2 iv) (Rel.ofF' (by intro _ z; cases z) R5.dropF)
theorem de_dc2 {vs1 : List Nat} (hN : X.N.Nodup) (hi : DI X tg iter τi) (ok : BlkOk X.N X.env.scope scope own)
    (hg : ∀ (s : Shared) (H : Hp) (C : Addr) (cl : List (Str × Addr)) (fp : List Addr), DG (X.blk s H scope (compEnvC scope cl C X.env) fp) tg ws γ)
    (hi1 : ∀ (s : Shared) (H : Hp) (C : Addr) (cl : List (Str × Addr)) (fp : List Addr), DI (X.blk s H scope (compEnvC scope cl C X.env) fp) tg1 iter1 τi1)
    (hg1 : ∀ (s : Shared) (H : Hp) (C : Addr) (cl : List (Str × Addr)) (fp : List Addr), DG (X.blk s H scope (compEnvC scope cl C X.env) fp) tg1 ws1 γ1)
    (hk : ∀ (s : Shared) (H : Hp) (C : Addr) (cl : List (Str × Addr)) (fp : List Addr), DE (X.blk s H scope (compEnvC scope cl C X.env) fp) kx tk)
    (he : ∀ (s : Shared) (H : Hp) (C : Addr) (cl : List (Str × Addr)) (fp : List Addr), DE (X.blk s H scope (compEnvC scope cl C X.env) fp) vx te) (hw : ∀ i ∈ ws, i ∈ own.map (·.2) := by decide) (hw1 : ∀ i ∈ ws1, i ∈ vs1 := by decide) (hv : ∀ i ∈ vs1, i ∈ own.map (·.2) := by decide) (hc : X.calm = true := by rfl)
    (hs : ∀ x, foldedSetIterable iter X.env x = pure x := by intro _; rfl) (hs1 : ∀ env x, foldedSetIterable iter1 env x = pure x := by intro _ _; rfl) :
    DE X (.DictComp kx vx [⟨tg, iter, [], 0⟩, ⟨tg1, iter1, [], 0⟩] scope pos) (dDc2 τi γ τi1 γ1 tk te (own.map (·.2)) vs1) := peI (pe_dc2 hc hN hi ok hv hg hi1 hg1 hk he hs hs1) fun σ H Q h => dc2_read hw hw1 h
end
theorem ints_of {K : PySem.W.Frag} {H : Hp} : ∀ {us : List V} {l : List Int}, DqAll K H us (l.map .int) → us = l.map V.int
  | [], [], _ => rfl
  | u :: us, i :: l, .cons h t => by
    cases h
    rw [ints_of t]
    rfl
  | [], _ :: _, h => by cases h
  | _ :: _, [], h => by cases h
def dLtT2 (Γ : Gm) (o p : O) (Kt : O → Gm → Prop) : Prop := ∃ l m : List Int, vw Γ o = some (.tuple (l.map .int)) ∧ vw Γ p = some (.tuple (m.map .int)) ∧ Kt (.fz (.bool (HT.lexLt l m))) Γ
theorem fit_ltT {K : PySem.W.Frag} : Fit2 K (rLtT K) dLtT2 := fun G0 Γ T F σ H v w o p Kt Q R1 ⟨l, m, h1, h2, q1⟩ q => by
  have a1 := R1.drop.view h1
  have a2 := R1.view h2
  cases a1 with
  | tup s1 d1 =>
    cases a2 with
    | tup s2 d2 =>
      rw [ints_of d1] at s1
      rw [ints_of d2] at s2
      exact ⟨_, _, l, m, rfl, rfl, s1, s2, q _ Γ _ H q1 (R1.drop.drop.push fun _ => .bl _)⟩
section
variable {X : Cx} {a b : Expr} {τa τb : TEd} {p : Pos} {k : Nat}
theorem dt_ltT (hr : Room k X.A) (ha : DE X a τa) (hb : DE X b τb) : DT X (.Compare a [.Lt] [b] p) (dTest (dBin dLtT2 τa τb)) := dt_cmp fit_ltT (op_ltT (Nat.lt_of_le_of_lt (Nat.le_add_right _ _) (hu_in hr))) ha hb (nomark _)
end
end Dl
end
section
namespace Dl
open PySem PySem.Spec PyProof.Rows L2
def snapO (o : O) : O := match see o with
  | some d => .fz d
  | none => .any
def snap (Γ : Gm) : Gm := Γ.map (Option.map snapO)
def visV : Sl → Gm → List V × List PyData
  | some v :: σ, some o :: Γ => match see o with
    | some d => (v :: (visV σ Γ).1, d :: (visV σ Γ).2)
    | none => visV σ Γ
  | _ :: σ, _ :: Γ => visV σ Γ
  | _, _ => ([], [])
section
variable {K : PySem.W.Frag} {G0 G1 H : Hp}
theorem vis_all : ∀ {σ : Sl} {Γ : Gm} {L : Ent}, R K G0 H (ents σ Γ ++ L) → DqAll K H (visV σ Γ).1 (visV σ Γ).2
  | some v :: σ, some o :: Γ, L, r => by
    have r : R K G0 H ((v, o) :: (ents σ Γ ++ L)) := r
    have ih := vis_all r.tail
    unfold visV
    cases h : see o with
    | some d => exact .cons (r.seen h) ih
    | none => exact ih
  | none :: σ, some _ :: Γ, L, r => vis_all (σ := σ) (Γ := Γ) r
  | none :: σ, none :: Γ, L, r => vis_all (σ := σ) (Γ := Γ) r
  | some _ :: σ, none :: Γ, L, r => vis_all (σ := σ) (Γ := Γ) r
  | [], [], _, _ => .nil
  | [], _ :: _, _, _ => .nil
  | x :: _, [], _, _ => by
    cases x <;> exact .nil
theorem vis_ents : ∀ {σ : Sl} {Γ : Gm} {L : Ent}, R K G1 H (fzs (visV σ Γ).1 (visV σ Γ).2 ++ L) → R K G1 H (ents σ (snap Γ) ++ L)
  | some v :: σ, some o :: Γ, L, r => by
    show R K G1 H ((v, snapO o) :: (ents σ (snap Γ) ++ L))
    unfold visV at r
    unfold snapO
    cases h : see o with
    | some d =>
      rw [h] at r
      have r : R K G1 H ((v, .fz d) :: (fzs (visV σ Γ).1 (visV σ Γ).2 ++ L)) := r
      have r2 := vis_ents (σ := σ) (Γ := Γ) (L := (v, .fz d) :: L) (r.perm List.perm_middle.symm)
      exact r2.perm List.perm_middle
    | none =>
      rw [h] at r
      have r : R K G1 H (fzs (visV σ Γ).1 (visV σ Γ).2 ++ L) := r
      exact (vis_ents r).addAny
  | none :: σ, some _ :: Γ, L, r => vis_ents (σ := σ) (Γ := Γ) r
  | none :: σ, none :: Γ, L, r => vis_ents (σ := σ) (Γ := Γ) r
  | some _ :: σ, none :: Γ, L, r => vis_ents (σ := σ) (Γ := Γ) r
  | [], [], _, r => r
  | [], _ :: _, _, r => r
  | x :: _, [], _, r => by
    cases x <;> exact r
theorem snap_fit : ∀ {σ : Sl} {Γ : Gm}, Fit σ Γ → Fit σ (snap Γ)
  | some _ :: σ, some _ :: Γ, h => snap_fit (σ := σ) (Γ := Γ) h
  | none :: σ, none :: Γ, h => snap_fit (σ := σ) (Γ := Γ) h
  | some _ :: σ, none :: Γ, h => snap_fit (σ := σ) (Γ := Γ) h
  | none :: _, some _ :: _, h => h.elim
  | [], [], h => h
  | [], _ :: _, h => by cases h
  | _ :: _, [], h => by
    unfold Fit at h
    exact h.elim
end
def dLook (τ : TEd) : TEd := fun Γ Kt => τ (snap Γ) fun o _ => isScal o ∧ Kt o Γ
section
variable {X : Cx} {e : Expr} {τ : TEd}
theorem de_look (h : DE X e τ) : DE X e (dLook τ) := peI h fun σ H Q ⟨G0, Γ, T, F, Kt, R1, k, q⟩ => by
  have r0 : R X.K G0 H (ents σ Γ ++ (T ++ F)) := R1.r.perm (by
    rw [← List.append_assoc, ← List.append_assoc]
    exact List.perm_append_comm.append_right F)
  obtain ⟨G1, r1, rest⟩ := r0.look (vis_all r0)
  have Rs : Rel X.K G1 [] [] σ H (snap Γ) := ⟨snap_fit R1.fit, fun _ _ m => by simp at m, by
    have := vis_ents (L := []) (by rw [List.append_nil]; exact r1)
    exact this⟩
  refine ⟨G1, snap Γ, [], [], _, Rs, k, fun o Γ' v H' ⟨k1, k2⟩ r => ?_⟩
  obtain ⟨d, rfl, hd⟩ := scal_any k1 r.r
  have R4 : Rel X.K G0 T F σ H' Γ := ⟨R1.fit, R1.al, (rest H' _ r.r).1.perm (by
    rw [← List.append_assoc, ← List.append_assoc]
    exact List.perm_append_comm.append_right F)⟩
  exact q _ Γ v H' k2 (R4.push hd)
end
end Dl
end
section
set_option maxHeartbeats 4000000
namespace Dl
open PySem PySem.Spec PyProof.Rows L2
end Dl
end
section
namespace Kx
open PySem PySem.Spec PyProof.Rows L2 Dl
theorem sortI_congr {a b : List Int} (h : a.Perm b) : sortI a = sortI b := sorted_uniq ((sortI_perm a).trans (h.trans (sortI_perm b).symm)) (sortI_sorted a) (sortI_sorted b)
end Kx
end
section
namespace Kx
open PySem PySem.Spec PyProof.Rows L2 Dl
/-- the train at index j of place i stands at that position of the order -/
theorem std_pos {S : Std} {i j : Nat} (hi : i < S.length) (hj : j < (S.getD i []).length) : S.flatten[(S.take i).flatten.length + j]? = some ((S.getD i []).getD j 0) := by
  rw [std_split hi, List.getElem?_append_right (by omega), List.getElem?_append_left (by omega)]
  rw [show (S.take i).flatten.length + j - (S.take i).flatten.length = j by omega]
  generalize S.getD i [] = l at hj
  rw [List.getElem?_eq_getElem hj, List.getD_eq_getElem?_getD, List.getElem?_eq_getElem hj]
  rfl
end Kx
namespace Kx
open PySem PySem.Spec PyProof.Rows L2 Dl
theorem std_get {S : Std} {i : Nat} (h : i < S.length) : (S.map fun l => PyData.tuple (l.map PyData.int)).getD i .none = .tuple ((S.getD i []).map .int) := getD_map (f := fun l => PyData.tuple (l.map PyData.int)) [] h
theorem line_get {L : Lin} {i : Nat} (h : i < L.length) : (L.map placeD).getD i .none = .tuple [.str (L.getD i z0).1, .int (L.getD i z0).2] := getD_map z0 h
theorem atI_nat {α : Type} {ds : List α} {n : Nat} (e : α) (h : n < ds.length) : atI ds (n : Int) = some (ds.getD n e) := by
  rw [atI_ok (e := e) (by omega) (by omega), Int.toNat_natCast]
end Kx
end
section
namespace Kx
open PySem PySem.Spec PyProof.Rows L2 Dl
theorem eqvAll_map {α : Type} [DecidableEq α] {f : α → PyData} (hf : ∀ x y, PyData.eqv (f x) (f y) = decide (x = y)) : ∀ a b : List α, PyData.eqvAll (a.map f) (b.map f) = decide (a = b)
  | [], [] => by rw [List.map_nil, PyData.eqvAll, decide_eq_true rfl]
  | [], y :: b => by rw [List.map_nil, List.map_cons, PyData.eqvAll]; exact (decide_eq_false (by simp)).symm
  | x :: a, [] => by rw [List.map_nil, List.map_cons, PyData.eqvAll]; exact (decide_eq_false (by simp)).symm
  | x :: a, y :: b => by
    rw [List.map_cons, List.map_cons, PyData.eqvAll, hf, eqvAll_map hf a b]
    by_cases h1 : x = y
    · by_cases h2 : a = b
      · rw [decide_eq_true h1, decide_eq_true h2, decide_eq_true (by rw [h1, h2])]; rfl
      · rw [decide_eq_false h2, Bool.and_false, decide_eq_false (fun z => h2 (List.cons.inj z).2)]
    · rw [decide_eq_false h1, Bool.false_and, decide_eq_false (fun z => h1 (List.cons.inj z).1)]
theorem eqv_int (x y : Int) : PyData.eqv (.int x) (.int y) = decide (x = y) := by
  rw [PyData.eqv]
  by_cases h : x = y
  · rw [decide_eq_true h]; simp [h]
  · rw [decide_eq_false h]; simp [h]
theorem eqv_lst {α : Type} [DecidableEq α] {f : α → PyData} (hf : ∀ x y, PyData.eqv (f x) (f y) = decide (x = y)) (a b : List α) : PyData.eqv (.list (a.map f)) (.list (b.map f)) = decide (a = b) := by rw [PyData.eqv, eqvAll_map hf]
theorem eqv_ints (a b : List Int) : PyData.eqv (.list (a.map .int)) (.list (b.map .int)) = decide (a = b) := eqv_lst eqv_int a b
def phCheckT (cO : Addr) : List PyData → (O → Prop) → (XS → Prop) → Prop := fun ds Kt Ke => ∃ (e1 e2 : PyData) (S1 S2 : Std), ds = [e1, e2] ∧ St e1 S1 ∧ St e2 S2 ∧ S1.flatten.length ≤ 40 ∧ S2.flatten.length ≤ 40 ∧
  (sortI S1.flatten = sortI S2.flatten → Kt (.fz .none)) ∧ (sortI S1.flatten ≠ sortI S2.flatten → Ke (cO, none))
end Kx
end
section
namespace Kx
open PySem PySem.Spec PyProof.Rows L2 Dl
theorem shTr : SeqAt.shaped (.str "track") = true := by decide +kernel
end Kx
end
section
set_option maxHeartbeats 4000000
namespace Kx
open PySem PySem.Spec PyProof.Rows L2 Dl
def phRail3 : Nat → List PyData → (O → Nat → Prop) → Prop := fun m ds Kt => ∃ most top : Int, ds = [.int most, .int top] ∧ 1 ≤ most ∧ most ≤ 20 ∧ 1 ≤ top ∧ top < 1000000 ∧ m < 2 ^ 59 ∧
  ∀ (L : Lin) (m' : Nat), 1 ≤ L.length → (L.length : Int) ≤ most → kindsOk L → sizesLe L (max top 3) → m' ≤ m + 100 → Kt (.fz (lineD L)) m'
def phScene3 : Nat → List PyData → (O → Nat → Prop) → Prop := fun m ds Kt => ∃ most top cars : Int, ds = [.int most, .int top, .int cars] ∧ 1 ≤ most ∧ most ≤ 20 ∧ 1 ≤ top ∧ top < 1000000 ∧ 0 ≤ cars ∧ cars ≤ 40 ∧ m < 2 ^ 57 ∧
  ∀ (L : Lin) (S : Std) (m' : Nat), 1 ≤ L.length → (L.length : Int) ≤ most → kindsOk L → sizesLe L (max top 3) → Scn L S → (S.flatten.length : Int) ≤ cars → (S.flatten.length : Int) ≤ caps L → m' ≤ m + 300 → Kt (.fz (.tuple [lineD L, stdD S])) m'
end Kx
end
section
set_option maxHeartbeats 4000000
namespace Kx
open PySem PySem.Spec PyProof.Rows L2 Dl
abbrev cu (C : List Int) (i : Nat) : Int := C.getD i 0
structure CutOk (L : Lin) (m : Nat) (C : List Int) : Prop where
  len : C.length = L.length + 1
  zero : cu C 0 = 0
  top : cu C L.length = m
  mono : ∀ i, i < L.length → cu C i ≤ cu C (i + 1)
  room : ∀ i, i < L.length → cu C (i + 1) - cu C i ≤ (L.getD i z0).2
section
variable {L : Lin} {m : Nat} {C G r : List Int}
def difs (L : Lin) (C : List Int) : List Int := (List.range L.length).map fun i => cu C (i + 1) - cu C i
theorem difs_at {i : Nat} (h : i < L.length) : (difs L C).getD i 0 = cu C (i + 1) - cu C i := by
  unfold difs
  rw [List.getD_eq_getElem?_getD, List.getElem?_map, List.getElem?_range h]
  rfl
theorem difs_len : (difs L C).length = L.length := by unfold difs; rw [List.length_map, List.length_range]
theorem difs_sum (h0 : cu C 0 = 0) : ∀ i, i ≤ L.length → ((difs L C).take i).sum = cu C i
  | 0, _ => by
    rw [List.take_zero]
    exact h0.symm
  | i + 1, hi => by
    have h1 := difs_sum h0 i (by omega)
    rw [sum_take (by rw [difs_len]; omega), h1, difs_at (by omega)]
    omega
theorem CutOk.fits (h : CutOk L m C) : Kx.fits L (difs L C) := ⟨difs_len, fun i hi => by
  rw [difs_at hi]
  have h1 := h.mono i hi
  have h2 := h.room i hi
  omega⟩
theorem CutOk.sum (h : CutOk L r.length C) : (difs L C).sum = r.length := by
  have h1 := difs_sum (L := L) h.zero L.length (Nat.le_refl _)
  rw [List.take_of_length_le (by rw [difs_len]; exact Nat.le_refl _), h.top] at h1
  exact h1
end
end Kx
end
section
set_option maxHeartbeats 4000000
namespace Kx
open PySem PySem.Spec PyProof.Rows L2 Dl
section
variable {L : Lin} {m : Nat} {C G r : List Int}
theorem room_right (h : CutOk L m C) (g : CutOk L m G) : ∀ (k i : Nat), L.length - i = k → i < L.length → cu G i < cu C i → ∃ j, j < L.length ∧ cu G j < cu C j ∧ cu C (j + 1) - cu C j < (L.getD j z0).2
  | 0, i, e, hi, _ => by omega
  | k + 1, i, e, hi, hg => by
    by_cases hr : cu C (i + 1) - cu C i < (L.getD i z0).2
    · exact ⟨i, hi, hg, hr⟩
    · have h1 := g.room i hi
      have hlt : cu G (i + 1) < cu C (i + 1) := by omega
      by_cases hn : i + 1 < L.length
      · exact room_right h g k (i + 1) (by omega) hn hlt
      · have e2 : i + 1 = L.length := by omega
        rw [e2, h.top, g.top] at hlt
        omega
theorem train_right (h : CutOk L m C) (g : CutOk L m G) (hs : ∀ i, i < L.length → 1 ≤ (L.getD i z0).2) : ∀ (j : Nat), j < L.length → cu G j < cu C j → cu C (j + 1) - cu C j < (L.getD j z0).2 →
    ∃ a, a + 1 < L.length ∧ cu G (a + 1) < cu C (a + 1) ∧ cu C a < cu C (a + 1) ∧ cu C (a + 1 + 1) - cu C (a + 1) < (L.getD (a + 1) z0).2
  | 0, _, hg, _ => by
    rw [h.zero, g.zero] at hg
    omega
  | a + 1, hj, hg, hr => by
    have h1 := h.mono a (by omega)
    by_cases ht : cu C a < cu C (a + 1)
    · exact ⟨a, hj, hg, ht, hr⟩
    · have h2 := g.mono a (by omega)
      have h3 := hs a (by omega)
      exact train_right h g hs a (by omega) (by omega) (by omega)
theorem room_left (h : CutOk L m C) (g : CutOk L m G) : ∀ (i : Nat), i ≤ L.length → cu C i < cu G i → ∃ a, a + 1 ≤ L.length ∧ cu C (a + 1) < cu G (a + 1) ∧ cu C (a + 1) - cu C a < (L.getD a z0).2
  | 0, _, hg => by
    rw [h.zero, g.zero] at hg
    omega
  | a + 1, hi, hg => by
    by_cases hr : cu C (a + 1) - cu C a < (L.getD a z0).2
    · exact ⟨a, hi, hg, hr⟩
    · have h1 := g.room a (by omega)
      exact room_left h g a (by omega) (by omega)
theorem train_left (h : CutOk L m C) (g : CutOk L m G) (hs : ∀ i, i < L.length → 1 ≤ (L.getD i z0).2) : ∀ (k a : Nat), L.length - a = k → a + 1 ≤ L.length → cu C (a + 1) < cu G (a + 1) → cu C (a + 1) - cu C a < (L.getD a z0).2 →
    ∃ a, a + 1 < L.length ∧ cu C (a + 1) < cu G (a + 1) ∧ cu C (a + 1) < cu C (a + 1 + 1) ∧ cu C (a + 1) - cu C a < (L.getD a z0).2
  | 0, a, e, ha, _, _ => by omega
  | k + 1, a, e, ha, hg, hr => by
    by_cases hn : a + 1 < L.length
    · have h1 := h.mono (a + 1) hn
      by_cases ht : cu C (a + 1) < cu C (a + 1 + 1)
      · exact ⟨a, hn, hg, ht, hr⟩
      · have h2 := g.mono (a + 1) hn
        have h3 := hs (a + 1) hn
        exact train_left h g hs k (a + 1) (by omega) (by omega) (by omega) (by omega)
    · have e2 : a + 1 = L.length := by omega
      rw [e2, h.top, g.top] at hg
      omega
theorem goes (h : CutOk L m C) (g : CutOk L m G) (hs : ∀ i, i < L.length → 1 ≤ (L.getD i z0).2) (hne : C ≠ G) : ∃ a, a + 1 < L.length ∧
    ((cu G (a + 1) < cu C (a + 1) ∧ cu C a < cu C (a + 1) ∧ cu C (a + 1 + 1) - cu C (a + 1) < (L.getD (a + 1) z0).2) ∨ (cu C (a + 1) < cu G (a + 1) ∧ cu C (a + 1) < cu C (a + 1 + 1) ∧ cu C (a + 1) - cu C a < (L.getD a z0).2)) := by
  obtain ⟨i, hi, hd⟩ : ∃ i, i ≤ L.length ∧ cu C i ≠ cu G i := by
    refine Classical.byContradiction fun hno => hne ?_
    refine List.ext_getElem (by rw [h.len, g.len]) fun i h1 h2 => ?_
    have hi : i ≤ L.length := by rw [h.len] at h1; omega
    have e : cu C i = cu G i := Classical.byContradiction fun z => hno ⟨i, hi, z⟩
    have e1 : cu C i = C[i] := by show C.getD i 0 = _; rw [List.getD_eq_getElem?_getD, List.getElem?_eq_getElem h1]; rfl
    have e2 : cu G i = G[i] := by show G.getD i 0 = _; rw [List.getD_eq_getElem?_getD, List.getElem?_eq_getElem h2]; rfl
    rw [← e1, ← e2, e]
  rcases Int.lt_or_gt_of_ne hd with hd | hd
  · obtain ⟨a, a1, a2, a3⟩ := room_left h g i hi hd
    obtain ⟨b, b1, b2⟩ := train_left h g hs _ a rfl a1 a2 a3
    exact ⟨b, b1, .inr b2⟩
  · have hi2 : i < L.length := by
      refine Nat.lt_of_le_of_ne hi fun e => ?_
      rw [e, h.top, g.top] at hd
      omega
    obtain ⟨j, j1, j2, j3⟩ := room_right h g _ i rfl hi2 hd
    obtain ⟨a, a1, a2⟩ := train_right h g hs j j1 j2 j3
    exact ⟨a, a1, .inl a2⟩
end
end Kx
end
section
set_option maxHeartbeats 4000000
namespace Kx
open PySem PySem.Spec PyProof.Rows L2 Dl
section
variable {L : Lin} {m : Nat} {C G N r o : List Int}
def rkN (o : List Int) (t : Int) : Nat := o.findIdx fun x => decide (x = t)
theorem rk_at (hn : o.Nodup) {i : Nat} {t : Int} (h : o[i]? = some t) : rkN o t = i := by
  obtain ⟨hi, e⟩ := List.getElem?_eq_some_iff.mp h
  have hm : t ∈ o := List.mem_of_getElem? h
  have hlt : rkN o t < o.length := List.findIdx_lt_length.mpr ⟨t, hm, by simp⟩
  have hp := List.findIdx_getElem (xs := o) (p := fun x => decide (x = t)) (w := hlt)
  have hp := of_decide_eq_true hp
  exact nodup_at hn (List.getElem?_eq_some_iff.mpr ⟨hlt, hp⟩) h
theorem rk_get {t : Int} (h : t ∈ o) : rkN o t < o.length ∧ o[rkN o t]? = some t := by
  have hlt : rkN o t < o.length := List.findIdx_lt_length.mpr ⟨t, h, by simp⟩
  have hp := List.findIdx_getElem (xs := o) (p := fun x => decide (x = t)) (w := hlt)
  exact ⟨hlt, List.getElem?_eq_some_iff.mpr ⟨hlt, of_decide_eq_true hp⟩⟩
theorem getD_of {l : List Int} {i : Nat} (h : i < l.length) : l[i]? = some (l.getD i 0) := by
  rw [List.getD_eq_getElem?_getD, List.getElem?_eq_getElem h]
  rfl
end
end Kx
end
section
set_option maxHeartbeats 4000000
namespace Kx
open PySem PySem.Spec PyProof.Rows L2 Dl
section
variable {L : Lin} {S1 S2 : Std} {o C r : List Int} {path : Row}
theorem big_size {n : Nat} (h : n ≤ 4000000) : n ≤ sizeLine := Nat.le_trans h (by decide)
end
end Kx
end
section
set_option maxHeartbeats 4000000
namespace Kx
open PySem PySem.Spec PyProof.Rows L2 Dl
theorem dec_cast (a b : Nat) : decide ((a : Int) = b) = decide (a = b) := by
  by_cases h : a = b
  · subst h
    rw [decide_eq_true rfl, decide_eq_true rfl]
  · rw [decide_eq_false h, decide_eq_false (by omega)]
theorem dec_castL (a b : Nat) : decide ((a : Int) < b) = decide (a < b) := by
  by_cases h : a < b
  · rw [decide_eq_true h, decide_eq_true (by omega)]
  · rw [decide_eq_false h, decide_eq_false (by omega)]
end Kx
end
section
set_option maxHeartbeats 4000000
namespace Kx
open PySem PySem.Spec PyProof.Rows L2 Dl
def aheadT (L : Lin) (S : Std) (a b : Int) : Bool := if plT S a ≠ plT S b ∨ (L.getD (plT S a) z0).1 = "yard" then decide (plT S a < plT S b) else decide (rkN (S.getD (plT S a) []) a < rkN (S.getD (plT S a) []) b)
section
variable {L : Lin} {S : Std} {a b : Int}
theorem pl_at (hS : Scn L S) (ha : a ∈ S.flatten) : AtPl S a (plT S a) := by
  obtain ⟨i, hi⟩ := atPl_of ha
  rw [pl_of hi]
  exact hi
end
theorem rk_first {o : List Int} {t : Int} {m : Nat} (h : m < rkN o t) : o[m]? ≠ some t := fun e => by
  obtain ⟨hm, e⟩ := List.getElem?_eq_some_iff.mp e
  have := List.not_of_lt_findIdx (p := fun x => decide (x = t)) (xs := o) (i := m) h
  rw [e] at this
  simp at this
def phAhead : List PyData → (O → Prop) → Prop := fun ds Kt => ∃ (L : Lin) (S : Std) (a b : Int), ds = [lineD L, stdD S, .int a, .int b] ∧ Scn L S ∧ L.length ≤ 40 ∧ kindsOk L ∧ S.flatten.length ≤ 40 ∧ a ∈ S.flatten ∧ b ∈ S.flatten ∧ Kt (.fz (.bool (aheadT L S a b)))
end Kx
end
section
set_option maxHeartbeats 4000000
namespace Kx
open PySem PySem.Spec PyProof.Rows L2 Dl
local macro_rules | `(tactic| walk_at "dd") => `(tactic| simp only [dC, dVar, dBin, dTest, onB, dNotT, dAndT, dOrT, dAndV, dOrV, dNotV, dIf, dNil, dCons, dCB, dSeqI, dRng1, dRng2, dEnI, dZpI, escs, esc, fix1, fixN, mov, vw, vk, see, seeAll, dNext, dSeq, dBreak, dCont, dExpr, dRet, dRetN, dIfS, dSet, dMulti, putN, gdName, gdNil, gdCons, gdTup, dFor, dWhile, dCallP, dCallV, vws, isScal, onBox, dCallB, dTup, dLst, dLstO, dIx, onI2, dNegI, dAdd2, addD, dEq2, eqK, dIn2, dLen, onI1, onI12, dInt1, onInts, dToL, dToT, onBs, dMeth, isOwn, rhoApp, rhoPopAt, dStore, dRep2, dNoP, dPart, dSlice, wipeG, dYes, dLc, dIsi, dIsNT, dIsN, nonOf, dAug, dUnp, dKwP, pick, dNewD, dUpd, onPairs, dSortD, onIntsA, onOlAt, dAppT, dCallS, dLenS, dIxS, dLc2, lcTurn, List.getD_cons_zero, List.getD_cons_succ, Nat.zero_le, zl1, zl2, zl3, zl4, zl5, zl6, zl7, zl8, zl9, zl10, zl11, ls1, ls2, ls3, ls4, eq_self, Nat.reduceAdd, Nat.reduceEqDiff, itemsOf_list, itemsOf_tuple, Dl.get, Dl.put, List.length_cons, List.length_nil, List.map_cons, List.map_nil, id, true_and, and_true, true_implies, forall_const, Bool.not_true, Bool.not_false, reduceCtorEq, false_implies, Nat.zero_add, ite_true, ite_false, Bool.true_eq_false, Bool.false_eq_true])
local macro_rules | `(tactic| walk_at "w") => `(tactic| conv => whnf)
local macro_rules | `(tactic| walk_at "cb") => `(tactic| ((conv => whnf); refine ⟨rfl, rfl, Nat.zero_lt_succ _, ?_⟩; (conv => whnf)))
local macro_rules | `(tactic| walk_at "cp") => `(tactic| ((conv => whnf); refine ⟨rfl, ?_⟩; (conv => whnf)))
local macro_rules | `(tactic| walk_at "a") => `(tactic| ((conv => whnf); repeat (first | (refine ⟨leS rfl, ?_⟩; (conv => whnf)) | (refine ⟨trivial, ?_⟩; (conv => whnf)) | (refine ⟨rfl, ?_⟩; (conv => whnf)) | (refine ⟨Nat.zero_lt_succ _, ?_⟩; (conv => whnf)) | (refine ⟨(show (2 : Nat) < _ from ltN rfl), ?_⟩; (conv => whnf)) | (refine ⟨(show Dl.inR _ from (by unfold Dl.inR; omega)), ?_⟩; (conv => whnf)) | (refine ⟨fun _ => ?_, fun z => Bool.noConfusion (show true = false from z)⟩; (conv => whnf)) | (refine ⟨fun z => Bool.noConfusion (show false = true from z), fun _ => ?_⟩; (conv => whnf))); try (first | refine norm_ex (by dsimp only [Dl.put, Dl.wipeG, Dl.putN, puts]) ?_ | refine norm_lc (by dsimp only [Dl.put, Dl.wipeG, Dl.putN, puts]) ?_)))
local macro_rules | `(tactic| walk_at "b") => `(tactic| ((try dsimp only [puts, Dl.put, Dl.putN, Dl.wipeG]); walk_at "a"))
local macro_rules | `(tactic| walk_at "d") => `(tactic| ((walk_at "b"); dsimp only))
section
variable {P : Program} {w : World} {K : PySem.W.Frag} {mg : Str → Option Value} {base : Heap}
theorem st_own_pair (a0 : O) : startG ["pair"] [a0] = [some a0] := rfl
theorem can_own_pair (D : At K mg "own_pair" s_own_pair ["pair"]) (B : Blt mg) : Can P w K mg base (1) "own_pair" ["pair"] (spP K 1 phPair) := by
  refine D.canP sc_own_pair rfl fun f cdv A outer s H E hr => ⟨_, (ds_single (ds_ret (de_if (dt_val (de_isi "list" isi_list (dv 0) (by rfl) B.isinstance (by rfl) B.list (by decide +kernel))) (de_ty fit_tuple call_tuple_of rfl B.tuple (by decide +kernel) (da_cons (dv 0) da_nil)) (dv 0)))), fun ds Kt hl h => ?_⟩
  obtain ⟨xs, rfl, hk⟩ := h
  simp only [List.map_cons, List.map_nil]
  rw [st_own_pair]
  walk_at "w"
  refine ⟨trivial, ?_⟩
  walk_at "w"
  refine ⟨fun z => (by cases z), fun _ => ?_⟩
  walk_at "w"
  exact hk
theorem st_box (a0 a1 : O) : startG ["_law_script", "_law_k", "_law_core"] [a0, a1] = [some a0, some a1, none] := rfl
theorem can_box (D : At K mg "_law_box" s_box ["_law_script", "_law_k"]) (B : Blt mg) (c_cell_at : Can P w K mg base 1 "_law_cell_at" ["_law_script", "_law_k"] (spS K 1 phCell)) : Can P w K mg base (2) "_law_box" ["_law_script", "_law_k"] (spS K 1 phBox) := by
  refine D.canS sc_box rfl fun f cdv A outer s H E hr => ⟨_, (ds_cons (ds_set 2 sc_box.nd (de_canS c_cell_at hr (da_cons (dv 0) (da_cons (dv 1) da_nil))))
    (ds_single (ds_ret (de_lst (da_cons (de_mulI (de_b fit_abs call_abs rfl B.abs (by decide +kernel) (da_cons (dv 2) da_nil)) (de_ty fit_int1 call_int1 rfl B.int (by decide +kernel) (da_cons (de_ge (de_b fit_abs call_abs rfl B.abs (by decide +kernel) (da_cons (dv 2) da_nil)) (de_powI de_int de_int)) da_nil))) (da_cons (de_add (de_add (de_modI (dv 2) de_int) (de_mulI de_int (dv 1))) de_int) (da_cons de_int da_nil))))))), fun ns ds Kt hl h => ?_⟩
  obtain ⟨k, rfl, h0, h1, hk⟩ := h
  simp only [List.map_cons, List.map_nil]
  rw [st_box]
  try walk_at "dd"
  refine ⟨0, _, ns, rfl, rfl, ?_⟩
  try walk_at "dd"
  refine ⟨k, rfl, h0, fun v => ?_⟩
  try walk_at "dd"
  refine ⟨⟨by decide, by decide, by decide⟩, ?_, by decide, .inl ⟨by decide, by decide⟩, hk _ _ ?_ ?_ ?_⟩
  · refine .inr ⟨?_, ?_⟩ <;> (repeat' split) <;> decide
  · refine Int.mul_nonneg ?_ ?_ <;> split <;> omega
  · have := Int.emod_nonneg v (b := 2305843009213693951) (by decide)
    omega
  · have := Int.emod_lt_of_pos v (b := 2305843009213693951) (by decide)
    omega
theorem st_strewn (a0 a1 : O) : startG ["_law_box_here", "_law_some", "_law_left", "_law_found"] [a0, a1] = [some a0, some a1, none, none] := rfl
theorem can_strewn (D : At K mg "_law_strewn" s_strewn ["_law_box_here", "_law_some"]) (B : Blt mg) (c_take : Can P w K mg base 1 "_law_take" ["_law_box_here", "_law_span"] (spB K 1 phTake)) : Can P w K mg base (3) "_law_strewn" ["_law_box_here", "_law_some"] (spB K 1 phStrewn) := by
  refine D.canB sc_strewn rfl fun f cdv A outer s H E hr => ⟨_, (ds_cons (ds_par 2 3 sc_strewn.nd (da_cons (de_ty fit_list call_list_of rfl B.list (by decide +kernel) (da_cons (dv 1) da_nil)) (da_cons (de_lst da_nil) da_nil)))
    (ds_cons (ds_while (dt_ne hr (dv 2) (de_lst da_nil)) (ds_single (ds_expr (de_append 3 (pv 3) (da_cons (de_popAt 2 (pv 2) (da_cons (de_canB c_take hr (da_cons (dv 0) (da_cons (de_b fit_len call_len_seq rfl B.len (by decide +kernel) (da_cons (dv 2) da_nil)) da_nil))) da_nil)) da_nil)))))
    (ds_single (ds_ret (dv 3))))), fun p m ds Kt hl h => ?_⟩
  obtain ⟨d, k, xs, rfl, hi, h1, h2, h3⟩ := h
  simp only [List.map_cons, List.map_nil]
  rw [st_strewn]
  try walk_at "dd"
  simp only [hi]
  try walk_at "dd"
  refine ⟨fun n Γ => ∃ left found : List Int, n = left.length ∧ (found ++ left).Perm xs ∧ Γ = [some (.box p (m + found.length)), some (.fz d), some (.own (left.map .int)), some (.own (found.map .int))], ⟨_, xs, [], rfl, .refl _, rfl⟩, ?_⟩
  rintro n Γ ⟨left, found, rfl, hp, rfl⟩
  have hlen := hp.length_eq
  rw [List.length_append] at hlen
  try walk_at "dd"
  rw [eqv_nil]
  refine ⟨⟨shaped_ints left, shaped_nil⟩, fun hne => ⟨(left.map PyData.int).length, rfl, ?_, ?_, by omega, fun r r0 r1 => ?_⟩, fun hne => ?_⟩
  · cases left with
    | nil => simp at hne
    | cons x l => simp
  · rw [List.length_map]
    omega
  · rw [List.length_map] at r1
    try walk_at "dd"
    refine ⟨r0, by rw [List.length_map]; exact r1, by omega, lt_size (by rw [List.length_map]; omega), _, ?_, left.eraseIdx r.toNat, found ++ [left.getD r.toNat 0], rfl, ?_, ?_⟩
    · rw [List.length_eraseIdx]
      split <;> omega
    · refine List.Perm.trans ?_ hp
      rw [List.append_assoc]
      refine List.Perm.append_left _ ?_
      have hr : r.toNat < left.length := by omega
      rw [List.getD_eq_getElem?_getD, List.getElem?_eq_getElem hr]
      exact perm_erase hr
    · rw [getD_map_int (by omega), List.map_append, map_erase]
      simp only [List.length_append, List.length_singleton, List.map_cons, List.map_nil, Nat.add_assoc]
  · have e : left = [] := by
      cases left with
      | nil => rfl
      | cons x l => simp at hne
    subst e
    try walk_at "dd"
    rw [List.append_nil] at hp
    refine ⟨_, rfl, ?_⟩
    rw [hp.length_eq]
    exact h3 found hp
theorem st_numbers (a0 a1 a2 : O) : startG ["_law_box_here", "_law_rail_here", "_law_count_here", "_law_found", "_law_turn", "_law_at", "_law_k", "_law_label", "_law_top"] [a0, a1, a2] = [some a0, some a1, some a2, none, none, none, none, none, none] := rfl
theorem can_numbers (D : At K mg "_law_numbers" s_numbers ["_law_box_here", "_law_rail_here", "_law_count_here"]) (B : Blt mg) (c_of : Can P w K mg base 2 "_law_of" ["_law_box_here", "_law_some"] (spB K 1 phOf)) : Can P w K mg base (3) "_law_numbers" ["_law_box_here", "_law_rail_here", "_law_count_here"] (spB K 2 phNumbers) := by
  refine D.canB sc_numbers rfl fun f cdv A outer s H E hr => ⟨_, (ds_cons (ds_set 3 sc_numbers.nd (de_rep (de_lst (da_cons de_int da_nil)) (de_b fit_len call_len_seq rfl B.len (by decide +kernel) (da_cons (dv 1) da_nil))))
    (ds_cons (ds_for (di_range1 rfl B.range (da_cons (dv 2) da_nil)) (dg_name 4 sc_numbers.nd)
      (ds_cons (ds_set 5 sc_numbers.nd (de_canB c_of hr (da_cons (dv 0) (da_cons (de_lc sc_numbers.nd (di_enum rfl B.enumerate (da_cons (dv 1) da_nil)) (blkOk_by (own := [("_law_k", 6), ("_law_label", 7), ("_law_top", 8)]) (by rfl)) (fun _ _ _ _ _ => (dg_tup (n := 2) (dgs_cons (dg_name 6 sc_numbers.nd) (dgs_cons (dg_tup (n := 2) (dgs_cons (dg_name 7 sc_numbers.nd) (dgs_cons (dg_name 8 sc_numbers.nd) dgs_nil))) dgs_nil)))) (fun _ _ _ _ _ => (dts_one (dt_lt (de_ix (dv 3) (dv 6)) (dv 8)))) (fun _ _ _ _ _ => (dv 6))) da_nil))))
    (ds_single (ds_store 3 (pv 3) (dv 5) (de_add (de_ix (dv 3) (dv 5)) de_int)))))
    (ds_single (ds_ret (dv 3))))), fun p m ds Kt hl h => ?_⟩
  obtain ⟨d, L, c, rfl, hL, h5, hK, hcap, hc, hm, hk⟩ := h
  obtain ⟨k, ps, hi, hn, hp⟩ := id hL
  simp only [List.map_cons, List.map_nil]
  rw [st_numbers]
  walk_at "w"
  refine ⟨leS rfl, ?_⟩
  walk_at "w"
  rw [hi]
  walk_at "w"
  refine ⟨⟨by omega, by omega, le_size (by simp; omega)⟩, ?_⟩
  have e0 : (List.replicate ((ps.length : Int)).toNat [PyData.int 0]).flatten = (List.replicate L.length (0 : Int)).map .int := by
    rw [Int.toNat_natCast, hn]
    exact rep_flat _
  rw [e0]
  walk_at "w"
  refine ⟨⟨by omega, by omega⟩, fun i Γ => ∃ (N : List Int) (a b : Option O), fits L N ∧ N.sum = i ∧ Γ = [some (.box p (m + i)), some (.fz d), some (.fz (.int c)), some (.own (N.map .int)), a, b, none, none, none], ?_, ?_, ?_⟩
  · exact ⟨_, none, none, fits_zero hK, sum_zero _, rfl⟩
  · rintro i Γ hi2 ⟨N, a, b, hf, hs, rfl⟩
    have hi3 : i < c := by omega
    walk_at "w"
    rw [hi]
    walk_at "w"
    refine ⟨fun j acc Γ => acc = natsD ((List.range j).filter (roomT L N)) ∧ Γ = [some (.box p (m + i)), some (.fz d), some (.fz (.int c)), some (.own (N.map .int)), some (.fz (.int (0 + (i : Int)))), b, none, none, none], ⟨rfl, rfl⟩, ?_, ?_⟩
    · rintro j acc Γ hj ⟨rfl, rfl⟩
      have hj2 : j < L.length := by omega
      walk_at "w"
      refine ⟨rfl, ?_⟩
      walk_at "w"
      obtain ⟨k', h2⟩ := hp j hj2
      rw [h2]
      walk_at "w"
      refine ⟨rfl, ?_⟩
      walk_at "w"
      have hjN : j < N.length := by rw [hf.1]; exact hj2
      rw [atI_ok (e := PyData.none) (by omega : (0 : Int) ≤ j) (by rw [List.length_map]; omega), Int.toNat_natCast, getD_map_int hjN]
      walk_at "w"
      refine ⟨fun h1 => ?_, fun h1 => ?_⟩
      · walk_at "w"
        refine ⟨lt_size ?_, ?_, rfl⟩
        · rw [List.length_map]
          exact Nat.lt_of_le_of_lt (List.length_filter_le _ _) (by rw [List.length_range]; omega)
        · have h1 : roomT L N j = true := h1
          rw [filt_at, h1]
          simp [natsD]
      · have h1 : roomT L N j = false := h1
        refine ⟨?_, rfl⟩
        rw [filt_at, h1]
        simp
    · rintro acc Γ ⟨rfl, rfl⟩
      rw [hn]
      walk_at "cb"
      refine ⟨_, true, _, rfl, rfl, by rw [List.length_map]; exact room_ex hf (by omega), ?_, by omega, fun j hj => ?_⟩
      · rw [List.length_map]
        exact Nat.lt_of_le_of_lt (List.length_filter_le _ _) (by rw [List.length_range]; omega)
      · rw [List.length_map] at hj
        rw [getD_map 0 hj]
        have hm2 : ((List.range L.length).filter (roomT L N)).getD j 0 ∈ (List.range L.length).filter (roomT L N) := by
          rw [List.getD_eq_getElem?_getD, List.getElem?_eq_getElem hj]
          exact List.getElem_mem hj
        generalize ((List.range L.length).filter (roomT L N)).getD j 0 = at' at hm2
        obtain ⟨ha1, ha2⟩ := List.mem_filter.mp hm2
        have ha1 := List.mem_range.mp ha1
        have haN : at' < N.length := by rw [hf.1]; exact ha1
        walk_at "w"
        rw [atI_ok (e := PyData.none) (by omega : (0 : Int) ≤ at') (by rw [List.length_map]; omega), Int.toNat_natCast, getD_map_int haN]
        walk_at "w"
        refine ⟨trivial, ?_⟩
        walk_at "w"
        rw [ixN_ok (by omega : (0 : Int) ≤ at') (by rw [List.length_map]; omega), Int.toNat_natCast]
        have e9 : (N.map PyData.int).set at' (.int (N.getD at' 0 + 1)) = (N.set at' (N.getD at' 0 + 1)).map PyData.int := map_set' _ _ _ _
        walk_at "w"
        rw [e9]
        exact ⟨_, _, _, fits_set hf ha1 ha2, by rw [sum_set haN, hs]; omega, rfl⟩
  · rintro Γ ⟨N, a, b, hf, hs, rfl⟩
    walk_at "w"
    have e : ((c : Int)).toNat = c := Int.toNat_natCast c
    rw [e] at hs ⊢
    exact ⟨_, rfl, hk N hf hs⟩
theorem st_carts (a0 : O) : startG ["_law_park", "_law_found", "_law_some"] [a0] = [some a0, none, none] := rfl
theorem can_carts (D : At K mg "_law_carts" s_carts ["_law_park"]) (B : Blt mg) : Can P w K mg base (1) "_law_carts" ["_law_park"] (spP K 1 phCarts) := by
  refine D.canP sc_carts rfl fun f cdv A outer s H E hr => ⟨_, (ds_cons (ds_set 1 sc_carts.nd (de_lst da_nil))
    (ds_cons (ds_for (di_seq (dv 0)) (dg_name 2 sc_carts.nd)
      (ds_single (ds_set 1 sc_carts.nd (de_add (dv 1) (de_ty fit_list call_list_of rfl B.list (by decide +kernel) (da_cons (dv 2) da_nil))))))
    (ds_single (ds_ret (de_b fit_sorted cr_sortedI rfl B.sorted (by decide +kernel) (da_cons (dv 1) da_nil)))))), fun ds Kt hl h => ?_⟩
  obtain ⟨e, S, rfl, ⟨k, ps, hi, hn, hp⟩, h9, hk⟩ := h
  simp only [List.map_cons, List.map_nil]
  rw [st_carts]
  walk_at "w"
  refine ⟨Nat.zero_le _, ?_⟩
  walk_at "w"
  rw [hi]
  walk_at "w"
  refine ⟨fun i Γ => ∃ a, Γ = [some (.fz e), some (.own ((S.take i).flatten.map .int)), a], ⟨none, rfl⟩, ?_, ?_⟩
  · rintro i Γ hlt ⟨a, rfl⟩
    have hlt : i < S.length := by omega
    obtain ⟨k', h2⟩ := hp i hlt
    walk_at "w"
    rw [h2]
    walk_at "w"
    have hf := flat_len hlt (S.getD i []).length
    rw [List.length_append, List.take_length] at hf
    refine ⟨by rw [List.length_map, List.length_map]; exact le_size (by omega), ?_⟩
    walk_at "w"
    rw [flat_at hlt, List.map_append]
    exact ⟨_, rfl⟩
  · rintro Γ ⟨a, rfl⟩
    rw [hn, List.take_length]
    walk_at "w"
    refine ⟨_, rfl, fun js j1 j2 => ?_⟩
    walk_at "w"
    rw [sortI_eq j1 j2]
    exact hk
end
end Kx
end
section
set_option maxHeartbeats 4000000
namespace Kx
open PySem PySem.Spec PyProof.Rows L2 Dl
local macro_rules | `(tactic| walk_at "dd") => `(tactic| simp only [dC, dVar, dBin, dTest, onB, dNotT, dAndT, dOrT, dAndV, dOrV, dNotV, dIf, dNil, dCons, dCB, dSeqI, dRng1, dRng2, dEnI, dZpI, escs, esc, fix1, fixN, mov, vw, vk, see, seeAll, dNext, dSeq, dBreak, dCont, dExpr, dRet, dRetN, dIfS, dSet, dMulti, putN, gdName, gdNil, gdCons, gdTup, dFor, dWhile, dCallP, dCallV, vws, isScal, onBox, dCallB, dTup, dLst, dLstO, dIx, onI2, dNegI, dAdd2, addD, dEq2, eqK, dIn2, dLen, onI1, onI12, dInt1, onInts, dToL, dToT, onBs, dMeth, isOwn, rhoApp, rhoPopAt, dStore, dRep2, dNoP, dPart, dSlice, wipeG, dYes, dLc, dIsi, dIsNT, dIsN, nonOf, dAug, dUnp, dKwP, pick, dNewD, dUpd, onPairs, dSortD, onIntsA, onOlAt, dAppT, dCallS, dLenS, dIxS, dLc2, lcTurn, List.getD_cons_zero, List.getD_cons_succ, Nat.zero_le, zl1, zl2, zl3, zl4, zl5, zl6, zl7, zl8, zl9, zl10, zl11, ls1, ls2, ls3, ls4, eq_self, Nat.reduceAdd, Nat.reduceEqDiff, itemsOf_list, itemsOf_tuple, Dl.get, Dl.put, List.length_cons, List.length_nil, List.map_cons, List.map_nil, id, true_and, and_true, true_implies, forall_const, Bool.not_true, Bool.not_false, reduceCtorEq, false_implies, Nat.zero_add, ite_true, ite_false, Bool.true_eq_false, Bool.false_eq_true])
local macro_rules | `(tactic| walk_at "w") => `(tactic| conv => whnf)
local macro_rules | `(tactic| walk_at "cb") => `(tactic| ((conv => whnf); refine ⟨rfl, rfl, Nat.zero_lt_succ _, ?_⟩; (conv => whnf)))
local macro_rules | `(tactic| walk_at "cp") => `(tactic| ((conv => whnf); refine ⟨rfl, ?_⟩; (conv => whnf)))
local macro_rules | `(tactic| walk_at "a") => `(tactic| ((conv => whnf); repeat (first | (refine ⟨leS rfl, ?_⟩; (conv => whnf)) | (refine ⟨trivial, ?_⟩; (conv => whnf)) | (refine ⟨rfl, ?_⟩; (conv => whnf)) | (refine ⟨Nat.zero_lt_succ _, ?_⟩; (conv => whnf)) | (refine ⟨(show (2 : Nat) < _ from ltN rfl), ?_⟩; (conv => whnf)) | (refine ⟨(show Dl.inR _ from (by unfold Dl.inR; omega)), ?_⟩; (conv => whnf)) | (refine ⟨fun _ => ?_, fun z => Bool.noConfusion (show true = false from z)⟩; (conv => whnf)) | (refine ⟨fun z => Bool.noConfusion (show false = true from z), fun _ => ?_⟩; (conv => whnf))); try (first | refine norm_ex (by dsimp only [Dl.put, Dl.wipeG, Dl.putN, puts]) ?_ | refine norm_lc (by dsimp only [Dl.put, Dl.wipeG, Dl.putN, puts]) ?_)))
local macro_rules | `(tactic| walk_at "b") => `(tactic| ((try dsimp only [puts, Dl.put, Dl.putN, Dl.wipeG]); walk_at "a"))
local macro_rules | `(tactic| walk_at "d") => `(tactic| ((walk_at "b"); dsimp only))
section
variable {P : Program} {w : World} {K : PySem.W.Frag} {mg : Str → Option Value} {base : Heap}
theorem st_trains (a0 : O) : startG ["standing", "held", "train"] [a0] = [some a0, none, none] := rfl
theorem can_trains (D : At K mg "trains" s_trains ["standing"]) (B : Blt mg) : Can P w K mg base (1) "trains" ["standing"] (spP K 1 phTrains) := by
  refine D.canP sc_trains rfl fun f cdv A outer s H E hr => ⟨_, (ds_single (ds_ret (de_b fit_sorted cr_sortedI rfl B.sorted (by decide +kernel) (da_cons (de_lc2 sc_trains.nd (vs1 := [2]) (di_seq (dv 0)) (blkOk_by (own := [("held", 1), ("train", 2)]) (by rfl)) (fun _ _ _ _ _ => (dg_name 1 sc_trains.nd)) (fun _ _ _ _ _ => dts_nil) (fun _ _ _ _ _ => (di_seq (dv 1))) (fun _ _ _ _ _ => (dg_name 2 sc_trains.nd)) (fun _ _ _ _ _ => dts_nil) (fun _ _ _ _ _ => (dv 2))) da_nil)))), fun ds Kt hl h => ?_⟩
  obtain ⟨e, S, rfl, ⟨k, ps, hi, hn, hp⟩, h9, hk⟩ := h
  simp only [List.map_cons, List.map_nil]
  rw [st_trains]
  walk_at "w"
  rw [hi]
  walk_at "w"
  refine ⟨fun i acc Γ => acc = (S.take i).flatten.map .int ∧ Γ = [some (.fz e), none, none], ⟨rfl, rfl⟩, ?_, ?_⟩
  · rintro i acc Γ hlt ⟨rfl, rfl⟩
    have hlt : i < S.length := by omega
    obtain ⟨k', h2⟩ := hp i hlt
    walk_at "w"
    refine ⟨fun _ => ?_, fun z => (by cases z)⟩
    walk_at "w"
    rw [h2]
    walk_at "w"
    refine ⟨fun j acc Γ => acc = ((S.take i).flatten ++ (S.getD i []).take j).map .int ∧ Γ = [some (.fz e), some (.fz (ps.getD i .none)), none], ⟨by simp, rfl⟩, ?_, ?_⟩
    · rintro j acc Γ hj ⟨rfl, rfl⟩
      rw [List.length_map] at hj
      have ej : (fun i_1 => ((S.getD i []).map PyData.int).getD i_1 .none) j = .int ((S.getD i []).getD j 0) := getD_map_int hj
      rw [ej]
      walk_at "w"
      refine ⟨fun _ => ?_, fun z => (by cases z)⟩
      walk_at "w"
      have hf := flat_len hlt j
      refine ⟨lt_size (by rw [List.length_map]; omega), ?_, rfl⟩
      rw [take_at 0 hj, ← List.append_assoc, List.map_append (l₂ := [_])]
      rfl
    · rintro acc Γ ⟨rfl, rfl⟩
      rw [List.length_map, List.take_length, ← flat_at hlt]
      walk_at "w"
      exact ⟨rfl, rfl⟩
  · rintro acc Γ ⟨rfl, rfl⟩
    rw [hn, List.take_length]
    walk_at "w"
    refine ⟨_, rfl, fun js j1 j2 => ?_⟩
    walk_at "w"
    rw [sortI_eq j1 j2]
    exact hk
theorem st_of (a0 a1 : O) : startG ["_law_box_here", "_law_some"] [a0, a1] = [some a0, some a1] := rfl
theorem can_of (D : At K mg "_law_of" s_of ["_law_box_here", "_law_some"]) (B : Blt mg) (c_take : Can P w K mg base 1 "_law_take" ["_law_box_here", "_law_span"] (spB K 1 phTake)) : Can P w K mg base (2) "_law_of" ["_law_box_here", "_law_some"] (spB K 1 phOf) := by
  refine D.canB sc_of rfl fun f cdv A outer s H E hr => ⟨_, (ds_single (ds_ret (de_ix (dv 1) (de_canB c_take hr (da_cons (dv 0) (da_cons (de_b fit_len call_len_seq rfl B.len (by decide +kernel) (da_cons (dv 1) da_nil)) da_nil)))))), fun p m ds Kt hl h => ?_⟩
  obtain ⟨d, k, xs, rfl, hi, h0, h1, h2, h3⟩ := h
  simp only [List.map_cons, List.map_nil]
  rw [st_of]
  walk_at "dd"
  simp only [hi]
  refine ⟨_, rfl, by omega, by omega, h2, fun r r0 r1 => ?_⟩
  walk_at "dd"
  simp only [hi, atI_ok (e := PyData.none) r0 r1]
  exact ⟨_, rfl, h3 _ (by omega)⟩
theorem st_rail (a0 a1 a2 : O) : startG ["_law_box_here", "_law_most", "_law_top", "_law_total_here", "_law_bias", "_law_found", "_law_at", "_law_label"] [a0, a1, a2] = [some a0, some a1, some a2, none, none, none, none, none] := rfl
theorem can_rail (D : At K mg "_law_rail" s_rail ["_law_box_here", "_law_most", "_law_top"]) (B : Blt mg) (c_take : Can P w K mg base 1 "_law_take" ["_law_box_here", "_law_span"] (spB K 1 phTake)) (c_of : Can P w K mg base 2 "_law_of" ["_law_box_here", "_law_some"] (spB K 1 phOf)) : Can P w K mg base (3) "_law_rail" ["_law_box_here", "_law_most", "_law_top"] (spB K 2 phRail3) := by
  refine D.canB sc_rail rfl fun f cdv A outer s H E hr => ⟨_, (ds_cons (ds_par3 3 4 5 sc_rail.nd (da_cons (de_add de_int (de_canB c_take hr (da_cons (dv 0) (da_cons (dv 1) da_nil)))) (da_cons (de_canB c_take hr (da_cons (dv 0) (da_cons de_int da_nil))) (da_cons (de_lst da_nil) da_nil))))
    (ds_cons (ds_for (di_range1 rfl B.range (da_cons (dv 3) da_nil)) (dg_name 6 sc_rail.nd)
      (ds_cons (ds_set 7 sc_rail.nd (de_if (dt_gt (de_canB c_take hr (da_cons (dv 0) (da_cons de_int da_nil))) (dv 4)) de_str de_str))
    (ds_single (ds_expr (de_append 5 (pv 5) (da_cons (de_tup (da_cons (dv 7) (da_cons (de_add de_int (de_canB c_take hr (da_cons (dv 0) (da_cons (de_canB c_of hr (da_cons (dv 0) (da_cons (de_lst (da_cons de_int (da_cons de_int (da_cons de_int (da_cons (dv 2) da_nil))))) da_nil))) da_nil)))) da_nil))) da_nil))))))
    (ds_single (ds_ret (de_ty fit_tuple call_tuple_of rfl B.tuple (by decide +kernel) (da_cons (dv 5) da_nil)))))), fun p m ds Kt hl h => ?_⟩
  obtain ⟨most, top, rfl, m1, m2, t1, t2, hm, hk⟩ := h
  simp only [List.map_cons, List.map_nil]
  rw [st_rail]
  walk_at "cb"
  refine ⟨most, rfl, by omega, by omega, by omega, fun len r0 r1 => ?_⟩
  walk_at "cb"
  refine ⟨3, rfl, by omega, by omega, by omega, fun bias b0 b1 => ?_⟩
  walk_at "w"
  refine ⟨Nat.zero_le _, ?_⟩
  walk_at "w"
  refine ⟨rfl, ?_⟩
  walk_at "w"
  refine ⟨⟨by omega, by omega⟩, fun i Γ => ∃ (L : Lin) (m' : Nat) (a b : Option O), L.length = i ∧ kindsOk L ∧ sizesLe L (max top 3) ∧ m' ≤ m + 2 + 3 * i ∧ Γ = [some (.box p m'), some (.fz (.int most)), some (.fz (.int top)), some (.fz (.int (1 + len))), some (.fz (.int bias)), some (.own (L.map placeD)), a, b], ?_, ?_, ?_⟩
  · exact ⟨[], m + 1 + 1, none, none, rfl, fun i h => absurd h (by simp), fun i h => absurd h (by simp), by omega, rfl⟩
  · rintro i Γ hi ⟨L, m', a, b, hL, hK, hS, hm', rfl⟩
    have hi2 : (i : Int) < 1 + len := by omega
    walk_at "cb"
    refine ⟨4, rfl, by omega, by omega, by omega, fun q q0 q1 => ?_⟩
    walk_at "w"
    refine ⟨fun h1 => ?_, fun h1 => ?_⟩
    all_goals
      walk_at "w"
      refine ⟨trivial, ?_⟩
      walk_at "w"
      refine ⟨leS rfl, ?_⟩
      walk_at "cb"
      refine ⟨_, true, [.int 1, .int 2, .int 3, .int top], rfl, rfl, ltN rfl, ltN rfl, by omega, fun j hj => ?_⟩
      obtain ⟨sp, e, hsp⟩ := four_of hj
      rw [e]
      walk_at "cb"
      refine ⟨sp, rfl, by omega, by omega, by omega, fun z z0 z1 => ?_⟩
      walk_at "w"
      refine ⟨leS rfl, ?_⟩
      walk_at "w"
      refine ⟨lt_size (by rw [List.length_map]; omega), ?_⟩
    · have e9 : L.map placeD ++ [PyData.tuple [.str "yard", .int (1 + z)]] = (L ++ [(("yard" : Str), 1 + z)] : List (Str × Int)).map placeD := by rw [List.map_append]; rfl
      rw [e9]
      exact ⟨_, _, _, _, by rw [List.length_append, hL]; rfl, kindsOk_snoc hK (.inl rfl) (by omega), sizesLe_snoc hS (by omega), by omega, rfl⟩
    · have e9 : L.map placeD ++ [PyData.tuple [.str "track", .int (1 + z)]] = (L ++ [(("track" : Str), 1 + z)] : List (Str × Int)).map placeD := by rw [List.map_append]; rfl
      rw [e9]
      exact ⟨_, _, _, _, by rw [List.length_append, hL]; rfl, kindsOk_snoc hK (.inr rfl) (by omega), sizesLe_snoc hS (by omega), by omega, rfl⟩
  · rintro Γ ⟨L, m', a, b, hL, hK, hS, hm', rfl⟩
    walk_at "w"
    refine ⟨m', rfl, hk L m' (by omega) (by omega) hK hS (by omega)⟩
theorem st_parked (a0 a1 a2 : O) : startG ["_law_rail_here", "_law_row_up", "_law_numbers_here", "_law_found", "_law_at", "_law_label", "_law_top", "_law_some", "_law_part"] [a0, a1, a2] = [some a0, some a1, some a2, none, none, none, none, none, none] := rfl
theorem can_parked (D : At K mg "_law_parked" s_parked ["_law_rail_here", "_law_row_up", "_law_numbers_here"]) (B : Blt mg) : Can P w K mg base (1) "_law_parked" ["_law_rail_here", "_law_row_up", "_law_numbers_here"] (spP K 3 phParkX) := by
  refine D.canP sc_parked rfl fun f cdv A outer s H E hr => ⟨_, (ds_cons (ds_par 3 4 sc_parked.nd (da_cons (de_lst da_nil) (da_cons de_int da_nil)))
    (ds_cons (ds_for (di_zip rfl B.zip (da_cons (dv 0) (da_cons (dv 2) da_nil))) (dg_tup (n := 2) (dgs_cons (dg_tup (n := 2) (dgs_cons (dg_name 5 sc_parked.nd) (dgs_cons (dg_name 6 sc_parked.nd) dgs_nil))) (dgs_cons (dg_name 7 sc_parked.nd) dgs_nil)))
      (ds_cons (ds_set 8 sc_parked.nd (de_slice (dv 1) (dp_some (dv 4)) (dp_some (de_add (dv 4) (dv 7)))))
    (ds_cons (ds_expr (de_append 3 (pv 3) (da_cons (de_if (dt_eq hr (dv 5) de_str) (de_ty fit_tuple call_tuple_of rfl B.tuple (by decide +kernel) (da_cons (de_b fit_sorted cr_sortedI rfl B.sorted (by decide +kernel) (da_cons (dv 8) da_nil)) da_nil)) (de_ty fit_tuple call_tuple_of rfl B.tuple (by decide +kernel) (da_cons (dv 8) da_nil))) da_nil)))
    (ds_single (ds_set 4 sc_parked.nd (de_add (dv 4) (dv 7)))))))
    (ds_single (ds_ret (de_ty fit_tuple call_tuple_of rfl B.tuple (by decide +kernel) (da_cons (dv 3) da_nil)))))), fun ds Kt hl h => ?_⟩
  obtain ⟨d, L, N, r, rfl, hL, hN, h5, hK, hr9, hsum, hk⟩ := h
  obtain ⟨k, ps, hi, hn, hp⟩ := id hL
  simp only [List.map_cons, List.map_nil]
  rw [st_parked]
  walk_at "w"
  refine ⟨Nat.zero_le _, ?_⟩
  walk_at "w"
  refine ⟨rfl, ?_⟩
  walk_at "w"
  rw [hi]
  walk_at "w"
  have hNl := hN.1
  refine ⟨fun i Γ => ∃ (a b c e : Option O), Γ = [some (.fz d), some (.fz (.list (r.map .int))), some (.fz (.list (N.map .int))), some (.own (((List.range i).map (parkAt L r N)).map fun l => .tuple (l.map .int))), some (.fz (.int (N.take i).sum)), a, b, c, e], ?_, ?_, ?_⟩
  · exact ⟨none, none, none, none, rfl⟩
  · rintro i Γ hlt ⟨a, b, c, e, rfl⟩
    rw [List.length_map] at hlt
    have hi2 : i < L.length := by omega
    have hiN : i < N.length := by omega
    walk_at "w"
    refine ⟨rfl, ?_⟩
    walk_at "w"
    obtain ⟨k', h2⟩ := hp i hi2
    rw [h2]
    walk_at "w"
    refine ⟨rfl, ?_⟩
    have hs2 := hN.2 i hi2
    have hst := sum_take hiN
    walk_at "w"
    rw [getD_map_int hiN]
    walk_at "w"
    have h0 := takes_nonneg hN i
    have h01 := takes_nonneg hN (i + 1)
    have ept : Dl.cutD (r.map PyData.int) (some (N.take i).sum) (some ((N.take i).sum + N.getD i 0)) = (slN r (N.take i).sum.toNat (N.take (i + 1)).sum.toNat).map .int := by
      rw [← cut_nat, ← hst, Int.toNat_of_nonneg h0, Int.toNat_of_nonneg h01]
    refine ⟨trivial, ?_⟩
    rw [ept]
    walk_at "w"
    have hat : ((List.range (i + 1)).map (parkAt L r N)).map (fun l => PyData.tuple (l.map .int)) = (((List.range i).map (parkAt L r N)).map fun l => PyData.tuple (l.map .int)) ++ [.tuple ((parkAt L r N i).map .int)] := by
      rw [range_at, List.map_append, List.map_append]
      rfl
    refine ⟨⟨shaped_kind (hK i hi2).1, shY⟩, fun h1 => ?_, fun h1 => ?_⟩
    · walk_at "w"
      refine ⟨_, rfl, fun js j1 j2 => ?_⟩
      have ej : js = parkAt L r N i := by
        rw [sortI_eq j1 j2]
        unfold parkAt
        exact (if_pos (of_decide_eq_true (show decide ((L.getD i z0).1 = "yard") = true from h1))).symm
      walk_at "w"
      refine ⟨lt_size (by rw [List.length_map, List.length_map, List.length_range]; omega), ?_⟩
      rw [ej, ← hat]
      walk_at "w"
      rw [← hst]
      exact ⟨_, _, _, _, rfl⟩
    · have ej : slN r (N.take i).sum.toNat (N.take (i + 1)).sum.toNat = parkAt L r N i := by
        unfold parkAt
        exact (if_neg (of_decide_eq_false (show decide ((L.getD i z0).1 = "yard") = false from h1))).symm
      walk_at "w"
      refine ⟨lt_size (by rw [List.length_map, List.length_map, List.length_range]; omega), ?_⟩
      rw [ej, ← hat]
      walk_at "w"
      rw [← hst]
      exact ⟨_, _, _, _, rfl⟩
  · rintro Γ ⟨a, b, c, e, rfl⟩
    rw [List.length_map, hn, hNl, Nat.min_self]
    walk_at "w"
    exact hk
theorem st_spot (a0 a1 : O) : startG ["_law_park", "_law_cart", "_law_at", "_law_some"] [a0, a1] = [some a0, some a1, none, none] := rfl
theorem can_spot (D : At K mg "_law_spot" s_spot ["_law_park", "_law_cart"]) (B : Blt mg) : Can P w K mg base (1) "_law_spot" ["_law_park", "_law_cart"] (spP K 2 phSpot) := by
  refine D.canP sc_spot rfl fun f cdv A outer s H E hr => ⟨_, (ds_single (ds_ret (de_ix (de_lc sc_spot.nd (di_enum rfl B.enumerate (da_cons (dv 0) da_nil)) (blkOk_by (own := [("_law_at", 2), ("_law_some", 3)]) (by rfl)) (fun _ _ _ _ _ => (dg_tup (n := 2) (dgs_cons (dg_name 2 sc_spot.nd) (dgs_cons (dg_name 3 sc_spot.nd) dgs_nil)))) (fun _ _ _ _ _ => (dts_one (dt_in (dv 1) (dv 3)))) (fun _ _ _ _ _ => (dv 2))) de_int))), fun ds Kt hl h => ?_⟩
  obtain ⟨e, S, t, ip, rfl, ⟨k, ps, hi, hn, hp⟩, h9, hat, hk⟩ := h
  simp only [List.map_cons, List.map_nil]
  rw [st_spot]
  walk_at "w"
  rw [hi]
  walk_at "w"
  refine ⟨fun i acc Γ => acc = natsD (hitsT S t i) ∧ Γ = [some (.fz e), some (.fz (.int t)), none, none], ⟨rfl, rfl⟩, ?_, ?_⟩
  · rintro i acc Γ hlt ⟨rfl, rfl⟩
    have hlt : i < S.length := by omega
    obtain ⟨k', h2⟩ := hp i hlt
    walk_at "w"
    refine ⟨rfl, ?_⟩
    walk_at "w"
    rw [h2]
    walk_at "w"
    refine ⟨⟨rfl, flat_ints _⟩, ?_⟩
    rw [inD_ints]
    walk_at "w"
    have hl := hits_len S t i
    refine ⟨fun h1 => ?_, fun h1 => ?_⟩
    · walk_at "w"
      refine ⟨lt_size (by rw [natsD_len]; omega), ?_, rfl⟩
      rw [hits_at, if_pos (of_decide_eq_true h1), ← natsD_app]
      rfl
    · walk_at "w"
      refine ⟨?_, rfl⟩
      rw [hits_at, if_neg (of_decide_eq_false h1), List.append_nil]
  · rintro acc Γ ⟨rfl, rfl⟩
    obtain ⟨r, er⟩ := hits_first hat S.length hat.1
    rw [hn, er]
    walk_at "w"
    rw [atI_ok (e := .none) (Int.le_refl _) (by rw [natsD_len, List.length_cons]; omega)]
    exact hk
end
end Kx
end
section
set_option maxHeartbeats 4000000
namespace Kx
open PySem PySem.Spec PyProof.Rows L2 Dl
local macro_rules | `(tactic| walk_at "dd") => `(tactic| simp only [dC, dVar, dBin, dTest, onB, dNotT, dAndT, dOrT, dAndV, dOrV, dNotV, dIf, dNil, dCons, dCB, dSeqI, dRng1, dRng2, dEnI, dZpI, escs, esc, fix1, fixN, mov, vw, vk, see, seeAll, dNext, dSeq, dBreak, dCont, dExpr, dRet, dRetN, dIfS, dSet, dMulti, putN, gdName, gdNil, gdCons, gdTup, dFor, dWhile, dCallP, dCallV, vws, isScal, onBox, dCallB, dTup, dLst, dLstO, dIx, onI2, dNegI, dAdd2, addD, dEq2, eqK, dIn2, dLen, onI1, onI12, dInt1, onInts, dToL, dToT, onBs, dMeth, isOwn, rhoApp, rhoPopAt, dStore, dRep2, dNoP, dPart, dSlice, wipeG, dYes, dLc, dIsi, dIsNT, dIsN, nonOf, dAug, dUnp, dKwP, pick, dNewD, dUpd, onPairs, dSortD, onIntsA, onOlAt, dAppT, dCallS, dLenS, dIxS, dLc2, lcTurn, List.getD_cons_zero, List.getD_cons_succ, Nat.zero_le, zl1, zl2, zl3, zl4, zl5, zl6, zl7, zl8, zl9, zl10, zl11, ls1, ls2, ls3, ls4, eq_self, Nat.reduceAdd, Nat.reduceEqDiff, itemsOf_list, itemsOf_tuple, Dl.get, Dl.put, List.length_cons, List.length_nil, List.map_cons, List.map_nil, id, true_and, and_true, true_implies, forall_const, Bool.not_true, Bool.not_false, reduceCtorEq, false_implies, Nat.zero_add, ite_true, ite_false, Bool.true_eq_false, Bool.false_eq_true])
local macro_rules | `(tactic| walk_at "w") => `(tactic| conv => whnf)
local macro_rules | `(tactic| walk_at "cb") => `(tactic| ((conv => whnf); refine ⟨rfl, rfl, Nat.zero_lt_succ _, ?_⟩; (conv => whnf)))
local macro_rules | `(tactic| walk_at "cp") => `(tactic| ((conv => whnf); refine ⟨rfl, ?_⟩; (conv => whnf)))
local macro_rules | `(tactic| walk_at "a") => `(tactic| ((conv => whnf); repeat (first | (refine ⟨leS rfl, ?_⟩; (conv => whnf)) | (refine ⟨trivial, ?_⟩; (conv => whnf)) | (refine ⟨rfl, ?_⟩; (conv => whnf)) | (refine ⟨Nat.zero_lt_succ _, ?_⟩; (conv => whnf)) | (refine ⟨(show (2 : Nat) < _ from ltN rfl), ?_⟩; (conv => whnf)) | (refine ⟨(show Dl.inR _ from (by unfold Dl.inR; omega)), ?_⟩; (conv => whnf)) | (refine ⟨fun _ => ?_, fun z => Bool.noConfusion (show true = false from z)⟩; (conv => whnf)) | (refine ⟨fun z => Bool.noConfusion (show false = true from z), fun _ => ?_⟩; (conv => whnf))); try (first | refine norm_ex (by dsimp only [Dl.put, Dl.wipeG, Dl.putN, puts]) ?_ | refine norm_lc (by dsimp only [Dl.put, Dl.wipeG, Dl.putN, puts]) ?_)))
local macro_rules | `(tactic| walk_at "b") => `(tactic| ((try dsimp only [puts, Dl.put, Dl.putN, Dl.wipeG]); walk_at "a"))
local macro_rules | `(tactic| walk_at "d") => `(tactic| ((walk_at "b"); dsimp only))
section
variable {P : Program} {w : World} {K : PySem.W.Frag} {mg : Str → Option Value} {base : Heap}
theorem st_check_trains (a0 a1 : O) : startG ["one", "other"] [a0, a1] = [some a0, some a1] := rfl
theorem can_check_trains (D : At K mg "check_trains" s_check_trains ["one", "other"]) (B : Blt mg) {cOtherTrains : Addr} (z_OtherTrains : X0 K cOtherTrains "ValueError.__new__" (bmOf "ValueError")) (m_OtherTrains : mg "OtherTrains" = some (.ref cOtherTrains)) (c_trains : Can P w K mg base 1 "trains" ["standing"] (spP K 1 phTrains)) : CanX P w K mg base (3) "check_trains" ["one", "other"] (spX K 2 (phCheckT cOtherTrains)) := by
  refine D.canX sc_check_trains rfl fun f cdv A outer s H E hr => ?_
  have tk := takes_of (X := cxOf (L2.CX P w) P w K mg base ["one", "other"] "check_trains" (defScope s_check_trains) f cdv A outer s H E) (E := E) rfl rfl rfl rfl
  exact ⟨_, (dx_single (dx_if (dt_ne hr (de_canP c_trains hr (da_cons (dv 0) da_nil)) (de_canP c_trains hr (da_cons (dv 1) da_nil))) (dx_single (dx_raise0 xb_Value z_OtherTrains m_OtherTrains tk)) (dx_ofs ds_nil))), fun ds Kt Ke hl h => by
    obtain ⟨e1, e2, S1, S2, rfl, h1, h2, l1, l2, hk, hke⟩ := h
    simp only [List.map_cons, List.map_nil]
    rw [st_check_trains]
    walk_at "a"
    refine ⟨e1, S1, rfl, h1, l1, ?_⟩
    walk_at "a"
    refine ⟨e2, S2, rfl, h2, l2, ?_⟩
    walk_at "a"
    refine ⟨⟨shaped_ints _, shaped_ints _⟩, ?_⟩
    rw [eqv_ints]
    walk_at "a"
    by_cases q : sortI S1.flatten = sortI S2.flatten
    · rw [decide_eq_true q]
      walk_at "a"
      exact hk q
    · rw [decide_eq_false q]
      walk_at "a"
      exact hke q⟩
theorem st_same_ (a0 a1 : O) : startG ["_law_found", "_law_due_here", "_law_a", "_law_b"] [a0, a1] = [some a0, some a1, none, none] := rfl
theorem can_same_ {n : Nat} {ph : List PyData → (O → Prop) → Prop} (D : At K mg "_law_same" s_same ["_law_found", "_law_due_here"]) (B : Blt mg) (hph : match n with | 0 => True | n + 1 => ph = phSame n) (c_same : Can P w K mg base n "_law_same" ["_law_found", "_law_due_here"] (spP K 2 ph)) : Can P w K mg base ((n + 1)) "_law_same" ["_law_found", "_law_due_here"] (spP K 2 (phSame n)) := by
  refine D.canP sc_same rfl fun f cdv A outer s H E hr => ⟨_, (ds_cons (ds_if (dt_val (de_isi2 "list" "tuple" isi_list isi_tuple (dv 1) (by rfl) B.isinstance (by rfl) B.list (by decide +kernel) (by rfl) B.tuple (by decide +kernel))) (ds_cons (ds_if (dt_w (dw_or (dt_ne hr (de_isi "list" isi_list (dv 0) (by rfl) B.isinstance (by rfl) B.list (by decide +kernel)) (de_isi "list" isi_list (dv 1) (by rfl) B.isinstance (by rfl) B.list (by decide +kernel))) (dw_or1 (dt_ne hr (de_isi "tuple" isi_tuple (dv 0) (by rfl) B.isinstance (by rfl) B.tuple (by decide +kernel)) (de_isi "tuple" isi_tuple (dv 1) (by rfl) B.isinstance (by rfl) B.tuple (by decide +kernel)))))) (ds_single (ds_ret de_bl)) ds_nil)
    (ds_single (ds_ret (de_and (de_eq hr (de_b fit_len call_len_seq rfl B.len (by decide +kernel) (da_cons (dv 0) da_nil)) (de_b fit_len call_len_seq rfl B.len (by decide +kernel) (da_cons (dv 1) da_nil))) (de_one (de_b fit_all (cr_all rfl) rfl B.all (by decide +kernel) (da_cons (de_lc sc_same.nd (di_zip rfl B.zip (da_cons (dv 0) (da_cons (dv 1) da_nil))) (blkOk_by (own := [("_law_a", 2), ("_law_b", 3)]) (by rfl)) (fun _ _ _ _ _ => (dg_tup (n := 2) (dgs_cons (dg_name 2 sc_same.nd) (dgs_cons (dg_name 3 sc_same.nd) dgs_nil)))) (fun _ _ _ _ _ => dts_nil) (fun _ _ _ _ _ => (de_canV c_same hr (da_cons (dv 2) (da_cons (dv 3) da_nil)) (Nat.le_refl _)))) da_nil))))))) ds_nil)
    (ds_cons (ds_if (dt_w (dw_or (dt_isN (dv 1)) (dw_or1 (dt_val (de_isi2 "bool" "str" isi_bool isi_str (dv 1) (by rfl) B.isinstance (by rfl) B.bool (by decide +kernel) (by rfl) B.str (by decide +kernel)))))) (ds_single (ds_ret (de_and (de_eq hr (dv 0) (dv 1)) (de_and (de_eq hr (de_isi "bool" isi_bool (dv 0) (by rfl) B.isinstance (by rfl) B.bool (by decide +kernel)) (de_isi "bool" isi_bool (dv 1) (by rfl) B.isinstance (by rfl) B.bool (by decide +kernel))) (de_one (de_eq hr (de_isN (dv 0)) (de_isN (dv 1)))))))) ds_nil)
    (ds_single (ds_ret (de_and (de_isi "int" isi_int (dv 0) (by rfl) B.isinstance (by rfl) B.int (by decide +kernel)) (de_and (de_not (de_isi "bool" isi_bool (dv 0) (by rfl) B.isinstance (by rfl) B.bool (by decide +kernel))) (de_one (de_eq hr (dv 0) (dv 1))))))))), fun ds Kt hl h => ?_⟩
  obtain ⟨d, rfl, hd, hk⟩ := h
  simp only [List.map_cons, List.map_nil]
  rw [st_same_]
  walk_at "w"
  refine ⟨deep_noDict hd, ?_⟩
  cases hd with
  | int _ i =>
    walk_at "w"
    refine ⟨fun z => (by cases z), fun _ => ?_⟩
    walk_at "w"
    refine ⟨fun z => (by cases z), fun _ => ?_⟩
    walk_at "w"
    refine ⟨trivial, ?_⟩
    walk_at "w"
    refine ⟨fun z => (by cases z), fun _ => ?_⟩
    walk_at "w"
    refine ⟨trivial, ?_⟩
    walk_at "w"
    refine ⟨fun _ => ?_, fun z => by cases z⟩
    walk_at "w"
    refine ⟨trivial, ?_⟩
    walk_at "w"
    refine ⟨fun _ => ?_, fun z => by cases z⟩
    walk_at "w"
    rw [decide_eq_true rfl]
    exact hk
  | bool _ i =>
    walk_at "w"
    refine ⟨fun z => (by cases z), fun _ => ?_⟩
    walk_at "w"
    refine ⟨fun z => (by cases z), fun _ => ?_⟩
    walk_at "w"
    refine ⟨trivial, ?_⟩
    walk_at "w"
    refine ⟨fun _ => ?_, fun z => (by cases z)⟩
    walk_at "w"
    refine ⟨⟨rfl, rfl⟩, ?_⟩
    rw [show PyData.eqv (.bool i) (.bool i) = true from by cases i <;> rfl]
    walk_at "w"
    refine ⟨fun _ => ?_, fun z => (by cases z)⟩
    walk_at "w"
    refine ⟨trivial, ?_⟩
    walk_at "w"
    refine ⟨trivial, ?_⟩
    walk_at "w"
    refine ⟨⟨rfl, rfl⟩, ?_⟩
    walk_at "w"
    refine ⟨fun _ => ?_, fun z => (by cases (show true = false from z))⟩
    walk_at "w"
    refine ⟨⟨rfl, rfl⟩, ?_⟩
    walk_at "w"
    exact hk
  | str _ i hi =>
    walk_at "w"
    refine ⟨fun z => (by cases z), fun _ => ?_⟩
    walk_at "w"
    refine ⟨fun z => (by cases z), fun _ => ?_⟩
    walk_at "w"
    refine ⟨trivial, ?_⟩
    walk_at "w"
    refine ⟨fun _ => ?_, fun z => (by cases z)⟩
    walk_at "w"
    refine ⟨⟨hi, hi⟩, ?_⟩
    rw [decide_eq_true rfl]
    walk_at "w"
    refine ⟨fun _ => ?_, fun z => (by cases z)⟩
    walk_at "w"
    refine ⟨trivial, ?_⟩
    walk_at "w"
    refine ⟨trivial, ?_⟩
    walk_at "w"
    refine ⟨⟨rfl, rfl⟩, ?_⟩
    walk_at "w"
    refine ⟨fun _ => ?_, fun z => (by cases (show true = false from z))⟩
    walk_at "w"
    refine ⟨⟨rfl, rfl⟩, ?_⟩
    walk_at "w"
    exact hk
  | none _ =>
    walk_at "w"
    refine ⟨fun z => (by cases z), fun _ => ?_⟩
    walk_at "w"
    refine ⟨fun _ => ?_, fun z => (by cases z)⟩
    walk_at "w"
    refine ⟨fun _ => ?_, fun z => (by cases z)⟩
    walk_at "w"
    refine ⟨⟨rfl, rfl⟩, ?_⟩
    rw [show PyData.eqv .none .none = true from rfl]
    walk_at "w"
    refine ⟨fun _ => ?_, fun z => (by cases z)⟩
    walk_at "w"
    refine ⟨trivial, ?_⟩
    walk_at "w"
    refine ⟨trivial, ?_⟩
    walk_at "w"
    refine ⟨⟨rfl, rfl⟩, ?_⟩
    walk_at "w"
    refine ⟨fun _ => ?_, fun z => (by cases (show true = false from z))⟩
    walk_at "w"
    refine ⟨⟨rfl, rfl⟩, ?_⟩
    walk_at "w"
    exact hk
  | list n' ds hl9 hd =>
    walk_at "w"
    refine ⟨fun _ => ?_, fun z => by cases z⟩
    walk_at "w"
    refine ⟨trivial, ?_⟩
    walk_at "w"
    refine ⟨trivial, ?_⟩
    walk_at "w"
    refine ⟨⟨rfl, rfl⟩, ?_⟩
    walk_at "w"
    refine ⟨fun z => (by cases (show false = true from z)), fun _ => ?_⟩
    walk_at "w"
    refine ⟨trivial, ?_⟩
    walk_at "w"
    refine ⟨trivial, ?_⟩
    walk_at "w"
    refine ⟨⟨rfl, rfl⟩, ?_⟩
    walk_at "w"
    refine ⟨fun z => (by cases (show false = true from z)), fun _ => ?_⟩
    walk_at "w"
    refine ⟨fun _ => ?_, fun z => absurd z (by simp)⟩
    walk_at "w"
    have hph : ph = phSame n' := hph
    subst hph
    refine ⟨fun i acc Γ => acc = List.replicate i (.bool true) ∧ Γ = [some (.fz (.list ds)), some (.fz (.list ds)), none, none], ⟨rfl, rfl⟩, ?_, ?_⟩
    · rintro i acc Γ hi ⟨rfl, rfl⟩
      rw [Nat.min_self] at hi
      walk_at "w"
      refine ⟨rfl, ?_⟩
      walk_at "w"
      refine ⟨fun _ => ?_, fun z => by cases z⟩
      walk_at "cp"
      refine ⟨_, rfl, hd _ (getD_mem hi), ⟨trivial, ?_⟩⟩
      walk_at "w"
      exact ⟨lt_size5 (by rw [List.length_replicate]; omega), rep_snoc _ _, rfl⟩
    · rintro acc Γ ⟨rfl, rfl⟩
      rw [Nat.min_self]
      walk_at "w"
      refine ⟨List.replicate ds.length true, by rw [List.map_replicate], ?_⟩
      walk_at "w"
      rw [all_rep]
      exact hk
  | tuple n' ds hl9 hd =>
    walk_at "w"
    refine ⟨fun _ => ?_, fun z => by cases z⟩
    walk_at "w"
    refine ⟨trivial, ?_⟩
    walk_at "w"
    refine ⟨trivial, ?_⟩
    walk_at "w"
    refine ⟨⟨rfl, rfl⟩, ?_⟩
    walk_at "w"
    refine ⟨fun z => (by cases (show false = true from z)), fun _ => ?_⟩
    walk_at "w"
    refine ⟨trivial, ?_⟩
    walk_at "w"
    refine ⟨trivial, ?_⟩
    walk_at "w"
    refine ⟨⟨rfl, rfl⟩, ?_⟩
    walk_at "w"
    refine ⟨fun z => (by cases (show false = true from z)), fun _ => ?_⟩
    walk_at "w"
    refine ⟨fun _ => ?_, fun z => absurd z (by simp)⟩
    walk_at "w"
    have hph : ph = phSame n' := hph
    subst hph
    refine ⟨fun i acc Γ => acc = List.replicate i (.bool true) ∧ Γ = [some (.fz (.tuple ds)), some (.fz (.tuple ds)), none, none], ⟨rfl, rfl⟩, ?_, ?_⟩
    · rintro i acc Γ hi ⟨rfl, rfl⟩
      rw [Nat.min_self] at hi
      walk_at "w"
      refine ⟨rfl, ?_⟩
      walk_at "w"
      refine ⟨fun _ => ?_, fun z => by cases z⟩
      walk_at "cp"
      refine ⟨_, rfl, hd _ (getD_mem hi), ⟨trivial, ?_⟩⟩
      walk_at "w"
      exact ⟨lt_size5 (by rw [List.length_replicate]; omega), rep_snoc _ _, rfl⟩
    · rintro acc Γ ⟨rfl, rfl⟩
      rw [Nat.min_self]
      walk_at "w"
      refine ⟨List.replicate ds.length true, by rw [List.map_replicate], ?_⟩
      walk_at "w"
      rw [all_rep]
      exact hk
theorem can_same (D : At K mg "_law_same" s_same ["_law_found", "_law_due_here"]) (B : Blt mg) : ∀ n : Nat, Can P w K mg base (n + 1) "_law_same" ["_law_found", "_law_due_here"] (spP K 2 (phSame n))
  | 0 => can_same_ D B trivial (can_void D)
  | n + 1 => can_same_ D B rfl (can_same D B n)
theorem st_total (a0 : O) : startG ["_law_rail_here", "_law_label", "_law_top"] [a0] = [some a0, none, none] := rfl
theorem can_total (D : At K mg "_law_total" s_total ["_law_rail_here"]) (B : Blt mg) : Can P w K mg base (1) "_law_total" ["_law_rail_here"] (spP K 1 phCap) := by
  refine D.canP sc_total rfl fun f cdv A outer s H E hr => ⟨_, (ds_single (ds_ret (de_b fit_sumA (cr_sumA rfl) rfl B.sum (by decide +kernel) (da_cons (de_lc sc_total.nd (di_seq (dv 0)) (blkOk_by (own := [("_law_label", 1), ("_law_top", 2)]) (by rfl)) (fun _ _ _ _ _ => (dg_tup (n := 2) (dgs_cons (dg_name 1 sc_total.nd) (dgs_cons (dg_name 2 sc_total.nd) dgs_nil)))) (fun _ _ _ _ _ => dts_nil) (fun _ _ _ _ _ => (dv 2))) da_nil)))), fun ds Kt hl h => ?_⟩
  obtain ⟨d, L, rfl, ⟨k, ps, hi, hn, hp⟩, h5, hk⟩ := h
  simp only [List.map_cons, List.map_nil]
  rw [st_total]
  walk_at "dd"
  simp only [hi]
  refine ⟨fun i acc Γ => acc = ((L.take i).map (·.2)).map .int ∧ Γ = [some (.fz d), none, none], ?_, ?_, ?_⟩
  · exact ⟨rfl, rfl⟩
  · rintro i acc Γ hlt ⟨rfl, rfl⟩
    try walk_at "dd"
    obtain ⟨k', h2⟩ := hp i (by omega)
    simp only [h2]
    try walk_at "dd"
    refine ⟨lt_size (by simp; omega), ?_⟩
    rw [take_at z0 (by omega)]
    simp
  · rintro acc Γ ⟨rfl, rfl⟩
    try walk_at "dd"
    refine ⟨true, L.map (·.2), ?_, by unfold caps at hk; exact hk⟩
    rw [hn, List.take_length]
theorem st_count (a0 a1 a2 : O) : startG ["_law_box_here", "_law_rail_here", "_law_most", "_law_full"] [a0, a1, a2] = [some a0, some a1, some a2, none] := rfl
theorem can_count (D : At K mg "_law_count" s_count ["_law_box_here", "_law_rail_here", "_law_most"]) (B : Blt mg) (c_take : Can P w K mg base 1 "_law_take" ["_law_box_here", "_law_span"] (spB K 1 phTake)) (c_total : Can P w K mg base 1 "_law_total" ["_law_rail_here"] (spP K 1 phCap)) : Can P w K mg base (2) "_law_count" ["_law_box_here", "_law_rail_here", "_law_most"] (spB K 2 phCount) := by
  refine D.canB sc_count rfl fun f cdv A outer s H E hr => ⟨_, (ds_cons (ds_set 3 sc_count.nd (de_b fit_min2 (call_min2 rfl) rfl B.min (by decide +kernel) (da_cons (dv 2) (da_cons (de_canP c_total hr (da_cons (dv 1) da_nil)) da_nil))))
    (ds_single (ds_ret (de_if (dt_eq hr (de_canB c_take hr (da_cons (dv 0) (da_cons de_int da_nil))) de_int) (de_canB c_take hr (da_cons (dv 0) (da_cons (de_add (dv 3) de_int) da_nil))) (de_subI (dv 3) (de_b fit_min2 (call_min2 rfl) rfl B.min (by decide +kernel) (da_cons (dv 3) (da_cons (de_canB c_take hr (da_cons (dv 0) (da_cons de_int da_nil))) da_nil)))))))), fun p m ds Kt hl h => ?_⟩
  obtain ⟨d, L, most, rfl, hL, h5, hK, m0, m1, hm, hk⟩ := h
  have hcap := caps_nonneg hK
  simp only [List.map_cons, List.map_nil]
  rw [st_count]
  walk_at "w"
  refine ⟨rfl, d, L, rfl, hL, h5, ?_⟩
  walk_at "w"
  have hf : 0 ≤ (if caps L < most then caps L else most) ∧ (if caps L < most then caps L else most) ≤ most ∧ (if caps L < most then caps L else most) ≤ caps L := by split <;> omega
  generalize (if caps L < most then caps L else most) = full at hf
  refine ⟨rfl, rfl, Nat.zero_lt_succ _, 3, rfl, by omega, by omega, by omega, fun r r0 r1 => ?_⟩
  walk_at "w"
  refine ⟨fun h1 => ?_, fun h1 => ?_⟩
  · walk_at "cb"
    refine ⟨full + 1, rfl, by omega, by omega, by omega, fun q q0 q1 => ?_⟩
    walk_at "w"
    refine ⟨_, rfl, ?_⟩
    have := hk q.toNat (by omega) (by omega)
    rw [Int.toNat_of_nonneg q0] at this
    exact this
  · walk_at "cb"
    refine ⟨4, rfl, by omega, by omega, by omega, fun q q0 q1 => ?_⟩
    walk_at "w"
    refine ⟨_, rfl, ?_⟩
    have hq : 0 ≤ full - (if q < full then q else full) ∧ full - (if q < full then q else full) ≤ full := by split <;> omega
    have := hk (full - (if q < full then q else full)).toNat (by omega) (by omega)
    rw [Int.toNat_of_nonneg hq.1] at this
    exact this
theorem st_ahead (a0 a1 a2 a3 : O) : startG ["_law_rail_here", "_law_park", "_law_first", "_law_second", "_law_here", "_law_there"] [a0, a1, a2, a3] = [some a0, some a1, some a2, some a3, none, none] := rfl
theorem can_ahead (D : At K mg "_law_ahead" s_ahead ["_law_rail_here", "_law_park", "_law_first", "_law_second"]) (B : Blt mg) (c_spot : Can P w K mg base 1 "_law_spot" ["_law_park", "_law_cart"] (spP K 2 phSpot)) : Can P w K mg base (2) "_law_ahead" ["_law_rail_here", "_law_park", "_law_first", "_law_second"] (spP K 4 phAhead) := by
  refine D.canP sc_ahead rfl fun f cdv A outer s H E hr => ⟨_, (ds_cons (ds_par 4 5 sc_ahead.nd (da_cons (de_canP c_spot hr (da_cons (dv 1) (da_cons (dv 2) da_nil))) (da_cons (de_canP c_spot hr (da_cons (dv 1) (da_cons (dv 3) da_nil))) da_nil)))
    (ds_cons (ds_if (dt_w (dw_or (dt_ne hr (dv 4) (dv 5)) (dw_or1 (dt_eq hr (de_ix (de_ix (dv 0) (dv 4)) de_int) de_str)))) (ds_single (ds_ret (de_lt (dv 4) (dv 5)))) ds_nil)
    (ds_single (ds_ret (de_lt (de_idxI (de_ty fit_list call_list_of rfl B.list (by decide +kernel) (da_cons (de_ix (dv 1) (dv 4)) da_nil)) (da_cons (dv 2) da_nil)) (de_idxI (de_ty fit_list call_list_of rfl B.list (by decide +kernel) (da_cons (de_ix (dv 1) (dv 4)) da_nil)) (da_cons (dv 3) da_nil))))))), fun ds Kt hl h => ?_⟩
  obtain ⟨L, S, a, b, rfl, hS, h5, hK, l1, ha, hb, hk⟩ := h
  simp only [List.map_cons, List.map_nil]
  rw [st_ahead]
  have pa := pl_at hS ha
  have pb := pl_at hS hb
  have hl := hS.len
  walk_at "b"
  refine ⟨_, S, a, _, rfl, st_std S, by omega, pa, ?_⟩
  walk_at "b"
  refine ⟨_, S, b, _, rfl, st_std S, by omega, pb, ?_⟩
  have la : plT S a < (S.map fun l => PyData.tuple (l.map PyData.int)).length := by rw [List.length_map]; exact pa.1
  have lL : plT S a < (L.map placeD).length := by rw [List.length_map]; have := pa.1; omega
  walk_at "b"
  rw [dec_cast]
  unfold aheadT at hk
  refine ⟨fun q => ?_, fun q => ?_⟩
  · have q : plT S a ≠ plT S b := by simpa using q
    rw [if_pos (.inl q)] at hk
    walk_at "b"
    rw [dec_castL]
    exact hk
  · have q : plT S a = plT S b := by simpa using q
    walk_at "b"
    rw [atI_nat .none lL, line_get (by have := pa.1; omega)]
    walk_at "b"
    refine ⟨⟨shaped_kind (hK _ (by have := pa.1; omega)).1, shY⟩, ?_⟩
    walk_at "b"
    refine ⟨fun y => ?_, fun y => ?_⟩
    · rw [if_pos (.inr (of_decide_eq_true y))] at hk
      walk_at "b"
      rw [dec_castL]
      exact hk
    · rw [if_neg (fun z => z.elim (fun x => x q) (of_decide_eq_false y))] at hk
      walk_at "b"
      rw [atI_nat .none la, std_get pa.1]
      walk_at "b"
      refine ⟨_, rfl, ?_⟩
      walk_at "b"
      refine ⟨a, rkN (S.getD (plT S a) []) a, rfl, (rk_get pa.2.1).2, fun m hm => rk_first hm, ?_⟩
      walk_at "b"
      rw [atI_nat .none la, std_get pa.1]
      walk_at "b"
      refine ⟨_, rfl, ?_⟩
      walk_at "b"
      refine ⟨b, rkN (S.getD (plT S a) []) b, rfl, (rk_get (by rw [q]; exact pb.2.1)).2, fun m hm => rk_first hm, ?_⟩
      walk_at "b"
      rw [dec_castL]
      exact hk
end
end Kx
end
section
set_option maxHeartbeats 4000000
namespace Kx
open PySem PySem.Spec PyProof.Rows L2 Dl
local macro_rules | `(tactic| walk_at "dd") => `(tactic| simp only [dC, dVar, dBin, dTest, onB, dNotT, dAndT, dOrT, dAndV, dOrV, dNotV, dIf, dNil, dCons, dCB, dSeqI, dRng1, dRng2, dEnI, dZpI, escs, esc, fix1, fixN, mov, vw, vk, see, seeAll, dNext, dSeq, dBreak, dCont, dExpr, dRet, dRetN, dIfS, dSet, dMulti, putN, gdName, gdNil, gdCons, gdTup, dFor, dWhile, dCallP, dCallV, vws, isScal, onBox, dCallB, dTup, dLst, dLstO, dIx, onI2, dNegI, dAdd2, addD, dEq2, eqK, dIn2, dLen, onI1, onI12, dInt1, onInts, dToL, dToT, onBs, dMeth, isOwn, rhoApp, rhoPopAt, dStore, dRep2, dNoP, dPart, dSlice, wipeG, dYes, dLc, dIsi, dIsNT, dIsN, nonOf, dAug, dUnp, dKwP, pick, dNewD, dUpd, onPairs, dSortD, onIntsA, onOlAt, dAppT, dCallS, dLenS, dIxS, dLc2, lcTurn, List.getD_cons_zero, List.getD_cons_succ, Nat.zero_le, zl1, zl2, zl3, zl4, zl5, zl6, zl7, zl8, zl9, zl10, zl11, ls1, ls2, ls3, ls4, eq_self, Nat.reduceAdd, Nat.reduceEqDiff, itemsOf_list, itemsOf_tuple, Dl.get, Dl.put, List.length_cons, List.length_nil, List.map_cons, List.map_nil, id, true_and, and_true, true_implies, forall_const, Bool.not_true, Bool.not_false, reduceCtorEq, false_implies, Nat.zero_add, ite_true, ite_false, Bool.true_eq_false, Bool.false_eq_true])
local macro_rules | `(tactic| walk_at "w") => `(tactic| conv => whnf)
local macro_rules | `(tactic| walk_at "cb") => `(tactic| ((conv => whnf); refine ⟨rfl, rfl, Nat.zero_lt_succ _, ?_⟩; (conv => whnf)))
local macro_rules | `(tactic| walk_at "cp") => `(tactic| ((conv => whnf); refine ⟨rfl, ?_⟩; (conv => whnf)))
local macro_rules | `(tactic| walk_at "a") => `(tactic| ((conv => whnf); repeat (first | (refine ⟨leS rfl, ?_⟩; (conv => whnf)) | (refine ⟨trivial, ?_⟩; (conv => whnf)) | (refine ⟨rfl, ?_⟩; (conv => whnf)) | (refine ⟨Nat.zero_lt_succ _, ?_⟩; (conv => whnf)) | (refine ⟨(show (2 : Nat) < _ from ltN rfl), ?_⟩; (conv => whnf)) | (refine ⟨(show Dl.inR _ from (by unfold Dl.inR; omega)), ?_⟩; (conv => whnf)) | (refine ⟨fun _ => ?_, fun z => Bool.noConfusion (show true = false from z)⟩; (conv => whnf)) | (refine ⟨fun z => Bool.noConfusion (show false = true from z), fun _ => ?_⟩; (conv => whnf))); try (first | refine norm_ex (by dsimp only [Dl.put, Dl.wipeG, Dl.putN, puts]) ?_ | refine norm_lc (by dsimp only [Dl.put, Dl.wipeG, Dl.putN, puts]) ?_)))
local macro_rules | `(tactic| walk_at "b") => `(tactic| ((try dsimp only [puts, Dl.put, Dl.putN, Dl.wipeG]); walk_at "a"))
local macro_rules | `(tactic| walk_at "d") => `(tactic| ((walk_at "b"); dsimp only))
section
variable {P : Program} {w : World} {K : PySem.W.Frag} {mg : Str → Option Value} {base : Heap}
theorem st_cell_at (a0 a1 : O) : startG ["_law_script", "_law_k"] [a0, a1] = [some a0, some a1] := rfl
theorem can_cell_at (D : At K mg "_law_cell_at" s_cell_at ["_law_script", "_law_k"]) (B : Blt mg) : Can P w K mg base (1) "_law_cell_at" ["_law_script", "_law_k"] (spS K 1 phCell) := by
  refine D.canS sc_cell_at rfl fun f cdv A outer s H E hr => ⟨_, (ds_cons (ds_if (dt_lt (dv 1) (de_b fit_lenS call_len_seq rfl B.len (by decide +kernel) (da_cons (dv 0) da_nil))) (ds_single (ds_ret (de_ixS 0 (pv 0) (dv 1)))) ds_nil)
    (ds_single (ds_ret de_int))), fun ns ds Kt hl h => ?_⟩
  obtain ⟨k, rfl, h0, hk⟩ := h
  simp only [List.map_cons, List.map_nil]
  rw [st_cell_at]
  try walk_at "dd"
  refine ⟨0, ns, rfl, rfl, ?_⟩
  try walk_at "dd"
  refine ⟨fun h1 => ⟨⟨ns, rfl⟩, ns, k, rfl, rfl, h0, of_decide_eq_true h1, hk _⟩, fun _ => hk _⟩
theorem st_lists_ (a0 : O) : startG ["_law_part", "_law_piece"] [a0] = [some a0, none] := rfl
theorem can_lists_ {n : Nat} {ph : List PyData → (O → Prop) → Prop} (D : At K mg "_law_lists" s_lists ["_law_part"]) (B : Blt mg) (hph : match n with | 0 => True | n + 1 => ph = phLists n) (c_lists : Can P w K mg base n "_law_lists" ["_law_part"] (spP K 1 ph)) : Can P w K mg base ((n + 1)) "_law_lists" ["_law_part"] (spP K 1 (phLists n)) := by
  refine D.canP sc_lists rfl fun f cdv A outer s H E hr => ⟨_, (ds_single (ds_ret (de_if (dt_val (de_isi2 "list" "tuple" isi_list isi_tuple (dv 0) (by rfl) B.isinstance (by rfl) B.list (by decide +kernel) (by rfl) B.tuple (by decide +kernel))) (de_lc sc_lists.nd (di_seq (dv 0)) (blkOk_by (own := [("_law_piece", 1)]) (by rfl)) (fun _ _ _ _ _ => (dg_name 1 sc_lists.nd)) (fun _ _ _ _ _ => dts_nil) (fun _ _ _ _ _ => (de_canP c_lists hr (da_cons (dv 1) da_nil) (Nat.le_refl _)))) (dv 0)))), fun ds Kt hl h => ?_⟩
  obtain ⟨d, rfl, hd, hk1, hk2⟩ := h
  simp only [List.map_cons, List.map_nil]
  rw [st_lists_]
  walk_at "w"
  refine ⟨deep_noDict hd, ?_⟩
  cases hd with
  | int _ i =>
    walk_at "w"
    exact ⟨fun z => (by cases z), fun _ => hk2 (by intro xs; simp [listed])⟩
  | bool _ i =>
    walk_at "w"
    exact ⟨fun z => (by cases z), fun _ => hk2 (by intro xs; simp [listed])⟩
  | str _ i hi =>
    walk_at "w"
    exact ⟨fun z => (by cases z), fun _ => hk2 (by intro xs; simp [listed])⟩
  | none _ =>
    walk_at "w"
    exact ⟨fun z => (by cases z), fun _ => hk2 (by intro xs; simp [listed])⟩
  | list n' ds hl9 hd =>
    walk_at "w"
    refine ⟨fun _ => ?_, fun z => by cases z⟩
    walk_at "w"
    have hph : ph = phLists n' := hph
    subst hph
    refine ⟨fun i acc Γ => acc = (ds.take i).map listed ∧ Γ = [some (.fz (.list ds)), none], ⟨rfl, rfl⟩, ?_, ?_⟩
    · rintro i acc Γ hi ⟨rfl, rfl⟩
      walk_at "w"
      refine ⟨fun _ => ?_, fun z => by cases z⟩
      walk_at "cp"
      refine ⟨_, rfl, hd _ (getD_mem hi), fun xs hx => ?_, fun hx => ?_⟩
      · walk_at "w"
        refine ⟨lt_size5 (by rw [List.length_map, List.length_take]; omega), ?_, rfl⟩
        rw [take_at .none hi, List.map_append, ← hx]
        rfl
      · walk_at "w"
        refine ⟨lt_size5 (by rw [List.length_map, List.length_take]; omega), ?_, rfl⟩
        rw [take_at .none hi, List.map_append, List.map_singleton, listed_atom hx]
    · rintro acc Γ ⟨rfl, rfl⟩
      rw [List.take_length]
      exact hk1 _ (by simp [listed, listedAll_map])
  | tuple n' ds hl9 hd =>
    walk_at "w"
    refine ⟨fun _ => ?_, fun z => by cases z⟩
    walk_at "w"
    have hph : ph = phLists n' := hph
    subst hph
    refine ⟨fun i acc Γ => acc = (ds.take i).map listed ∧ Γ = [some (.fz (.tuple ds)), none], ⟨rfl, rfl⟩, ?_, ?_⟩
    · rintro i acc Γ hi ⟨rfl, rfl⟩
      walk_at "w"
      refine ⟨fun _ => ?_, fun z => by cases z⟩
      walk_at "cp"
      refine ⟨_, rfl, hd _ (getD_mem hi), fun xs hx => ?_, fun hx => ?_⟩
      · walk_at "w"
        refine ⟨lt_size5 (by rw [List.length_map, List.length_take]; omega), ?_, rfl⟩
        rw [take_at .none hi, List.map_append, ← hx]
        rfl
      · walk_at "w"
        refine ⟨lt_size5 (by rw [List.length_map, List.length_take]; omega), ?_, rfl⟩
        rw [take_at .none hi, List.map_append, List.map_singleton, listed_atom hx]
    · rintro acc Γ ⟨rfl, rfl⟩
      rw [List.take_length]
      exact hk1 _ (by simp [listed, listedAll_map])
theorem can_lists (D : At K mg "_law_lists" s_lists ["_law_part"]) (B : Blt mg) : ∀ n : Nat, Can P w K mg base (n + 1) "_law_lists" ["_law_part"] (spP K 1 (phLists n))
  | 0 => can_lists_ D B trivial (can_void D)
  | n + 1 => can_lists_ D B rfl (can_lists D B n)
theorem st_ids (a0 a1 : O) : startG ["_law_box_here", "_law_count_here", "_law_gap", "_law_top", "_law_found", "_law_at"] [a0, a1] = [some a0, some a1, none, none, none, none] := rfl
theorem can_ids (D : At K mg "_law_ids" s_ids ["_law_box_here", "_law_count_here"]) (B : Blt mg) (c_take : Can P w K mg base 1 "_law_take" ["_law_box_here", "_law_span"] (spB K 1 phTake)) (c_of : Can P w K mg base 2 "_law_of" ["_law_box_here", "_law_some"] (spB K 1 phOf)) (c_strewn : Can P w K mg base 3 "_law_strewn" ["_law_box_here", "_law_some"] (spB K 1 phStrewn)) : Can P w K mg base (4) "_law_ids" ["_law_box_here", "_law_count_here"] (spB K 1 phIds) := by
  refine D.canB sc_ids rfl fun f cdv A outer s H E hr => ⟨_, (ds_cons (ds_par3 2 3 4 sc_ids.nd (da_cons (de_canB c_of hr (da_cons (dv 0) (da_cons (de_lst (da_cons de_int (da_cons de_int (da_cons de_int (da_cons (de_powI de_int de_int) da_nil))))) da_nil))) (da_cons (de_canB c_take hr (da_cons (dv 0) (da_cons de_int da_nil))) (da_cons (de_lst da_nil) da_nil))))
    (ds_cons (ds_for (di_range1 rfl B.range (da_cons (dv 1) da_nil)) (dg_name 5 sc_ids.nd)
      (ds_cons (ds_set 3 sc_ids.nd (de_add (de_add (dv 3) de_int) (de_canB c_take hr (da_cons (dv 0) (da_cons (dv 2) da_nil)))))
    (ds_single (ds_expr (de_append 4 (pv 4) (da_cons (de_subI (dv 3) de_int) da_nil))))))
    (ds_single (ds_ret (de_canB c_strewn hr (da_cons (dv 0) (da_cons (dv 4) da_nil))))))), fun p m ds Kt hl h => ?_⟩
  obtain ⟨c, rfl, hc, hm, hk⟩ := h
  simp only [List.map_cons, List.map_nil]
  rw [st_ids]
  walk_at "w"
  refine ⟨⟨by decide, by decide, by decide⟩, ?_⟩
  walk_at "w"
  refine ⟨leS rfl, ?_⟩
  walk_at "cb"
  refine ⟨_, true, [.int 1, .int 1, .int 7, .int 10000000], rfl, rfl, ltN rfl, ltN rfl, by omega, fun j hj => ?_⟩
  obtain ⟨gap, e, hgap⟩ := four_of hj
  rw [e]
  walk_at "cb"
  refine ⟨4, rfl, by omega, by omega, by omega, fun top r0 r1 => ?_⟩
  walk_at "w"
  refine ⟨Nat.zero_le _, ?_⟩
  walk_at "cp"
  refine ⟨⟨by omega, by omega⟩, fun i Γ => ∃ (r : List Int) (t : Int) (a : Option O), r.length = i ∧ r.Pairwise (· < ·) ∧ 0 ≤ t ∧ (t ≤ 4 + i * 10000001 ∧ ∀ x ∈ r, 0 ≤ x ∧ x < t) ∧ Γ = [some (.box p (m + 2 + i)), some (.fz (.int c)), some (.fz (.int gap)), some (.fz (.int t)), some (.own (r.map .int)), a], ?_, ?_, ?_⟩
  · exact ⟨[], top, none, rfl, .nil, r0, ⟨by omega, fun x h => absurd h (by simp)⟩, rfl⟩
  · rintro i Γ hi ⟨r, t, a, hr, hp, ht, ⟨hb, hx⟩, rfl⟩
    have hi2 : i < c := by omega
    walk_at "cb"
    refine ⟨gap, rfl, by omega, by omega, by omega, fun z z0 z1 => ?_⟩
    walk_at "w"
    refine ⟨trivial, ?_⟩
    walk_at "w"
    have e9 : r.map PyData.int ++ [.int (t + 1 + z - 1)] = (r ++ [t + 1 + z - 1]).map PyData.int := by rw [List.map_append]; rfl
    rw [e9]
    refine ⟨lt_size (by rw [List.length_map]; omega), ?_⟩
    have g1 : (r ++ [t + 1 + z - 1]).Pairwise (· < ·) := List.pairwise_append.mpr ⟨hp, List.pairwise_singleton _ _, fun x h y hy => by
      have := (hx x h).2
      rw [List.mem_singleton] at hy
      omega⟩
    have g2 : ∀ x ∈ r ++ [t + 1 + z - 1], 0 ≤ x ∧ x < t + 1 + z := by
      intro x h
      rcases List.mem_append.mp h with h | h
      · have := hx x h
        omega
      · rw [List.mem_singleton] at h
        omega
    exact ⟨_, _, _, by rw [List.length_append, hr]; rfl, g1, by omega, ⟨by omega, g2⟩, rfl⟩
  · rintro Γ ⟨r, t, a, hr, hp, ht, ⟨hb, hx⟩, rfl⟩
    walk_at "cb"
    have hr2 : r.length = c := by rw [hr]; omega
    refine ⟨_, true, r, rfl, rfl, by omega, by omega, fun ys hy => ?_⟩
    walk_at "w"
    refine ⟨_, rfl, hk ys _ (hy.length_eq.trans hr2) ?_ (fun x h => ⟨(hx x (hy.mem_iff.mp h)).1, by have := (hx x (hy.mem_iff.mp h)).2; omega⟩) ?_⟩
    · refine hy.nodup_iff.mpr (hp.imp fun h => Int.ne_of_lt h)
    · omega
theorem st_scene (a0 a1 a2 a3 : O) : startG ["_law_box_here", "_law_most", "_law_top", "_law_carts_here", "_law_rail_here", "_law_count_here"] [a0, a1, a2, a3] = [some a0, some a1, some a2, some a3, none, none] := rfl
theorem can_scene (D : At K mg "_law_scene" s_scene ["_law_box_here", "_law_most", "_law_top", "_law_carts_here"]) (B : Blt mg) (c_rail : Can P w K mg base 3 "_law_rail" ["_law_box_here", "_law_most", "_law_top"] (spB K 2 phRail3)) (c_count : Can P w K mg base 2 "_law_count" ["_law_box_here", "_law_rail_here", "_law_most"] (spB K 2 phCount)) (c_ids : Can P w K mg base 4 "_law_ids" ["_law_box_here", "_law_count_here"] (spB K 1 phIds)) (c_numbers : Can P w K mg base 3 "_law_numbers" ["_law_box_here", "_law_rail_here", "_law_count_here"] (spB K 2 phNumbers)) (c_parked : Can P w K mg base 1 "_law_parked" ["_law_rail_here", "_law_row_up", "_law_numbers_here"] (spP K 3 phParkX)) : Can P w K mg base (5) "_law_scene" ["_law_box_here", "_law_most", "_law_top", "_law_carts_here"] (spB K 3 phScene3) := by
  refine D.canB sc_scene rfl fun f cdv A outer s H E hr => ⟨_, (ds_cons (ds_set 4 sc_scene.nd (de_canB c_rail hr (da_cons (dv 0) (da_cons (dv 1) (da_cons (dv 2) da_nil)))))
    (ds_cons (ds_set 5 sc_scene.nd (de_canB c_count hr (da_cons (dv 0) (da_cons (dv 4) (da_cons (dv 3) da_nil)))))
    (ds_single (ds_ret (de_tup (da_cons (dv 4) (da_cons (de_canP c_parked hr (da_cons (dv 4) (da_cons (de_canB c_ids hr (da_cons (dv 0) (da_cons (dv 5) da_nil))) (da_cons (de_canB c_numbers hr (da_cons (dv 0) (da_cons (dv 4) (da_cons (dv 5) da_nil)))) da_nil)))) da_nil))))))), fun p m ds Kt hl h => ?_⟩
  obtain ⟨most, top, cars, rfl, m1, m2, t1, t2, c1, c2, hm, hk⟩ := h
  simp only [List.map_cons, List.map_nil]
  rw [st_scene]
  walk_at "cb"
  refine ⟨most, top, rfl, m1, m2, t1, t2, by omega, fun L m' l1 l2 hK hS hm' => ?_⟩
  walk_at "cb"
  refine ⟨lineD L, L, cars, rfl, ln_line L, by omega, hK, c1, c2, by omega, fun c hc1 hc2 => ?_⟩
  walk_at "cb"
  refine ⟨c, rfl, by omega, by omega, fun r m2 r1 r2 r3 r4 => ?_⟩
  walk_at "cb"
  refine ⟨lineD L, L, c, rfl, ln_line L, by omega, hK, hc2, by omega, by omega, fun N hN hs => ?_⟩
  walk_at "w"
  refine ⟨rfl, lineD L, L, N, r, rfl, ln_line L, hN, by omega, hK, by omega, by rw [hs, r1], ?_⟩
  walk_at "w"
  have hp := (park_all hN (by rw [hs, r1])).length_eq
  refine ⟨leS rfl, ?_⟩
  walk_at "w"
  refine ⟨_, rfl, hk L (parkS L r N) _ l1 l2 hK hS (scn_park hN (by rw [hs, r1]) r2 r3) (by omega) (by omega) (by omega)⟩
end
end Kx
end
section
set_option maxHeartbeats 1000000
namespace Kx
open PySem PySem.Spec PyProof.Rows L2 Dl
def seatT (L : Lin) (S : Std) (t : Int) : Nat := if (L.getD (plT S t) z0).1 = "track" then rkN (S.getD (plT S t) []) t else 0
def rkI (L : Lin) (S : Std) (t : Int) : List Int := [((plT S t : Nat) : Int), ((seatT L S t : Nat) : Int)]
def seatX (L : Lin) (S : Std) (ts : List Int) : KVs := ts.map fun t => (.int t, .tuple ((rkI L S t).map .int))
theorem lk_seat {L : Lin} {S : Std} {t : Int} : ∀ {ts : List Int}, t ∈ ts → lkD (seatX L S ts) (keyD (.inl t)) = some (.tuple ((rkI L S t).map .int))
  | [], h => by simp at h
  | u :: ts, h => by
    show (if decide (u = t) = true then some (PyData.tuple ((rkI L S u).map .int)) else lkD (seatX L S ts) (keyD (.inl t))) = _
    by_cases q : u = t
    · rw [if_pos (decide_eq_true q), q]
    · rw [if_neg (by rw [decide_eq_false q]; exact Bool.false_ne_true)]
      exact lk_seat ((List.mem_cons.mp h).resolve_left fun z => q z.symm)
theorem pt_seat {L : Lin} {S : Std} {t : Int} {ts : List Int} (h : t ∉ ts) : ptD (seatX L S ts) (keyD (.inl t)) (.tuple ((rkI L S t).map .int)) = seatX L S (ts ++ [t]) := by
  have e : hasD (seatX L S ts) (keyD (.inl t)) = false := by
    refine List.any_eq_false.mpr fun p hp => ?_
    obtain ⟨u, hu, rfl⟩ := List.mem_map.mp hp
    show ¬ decide (u = t) = true
    rw [decide_eq_false fun z : u = t => h (z ▸ hu)]
    exact Bool.false_ne_true
  unfold ptD
  rw [e]
  unfold seatX
  rw [List.map_append]
  rfl
section
variable {L : Lin} {S : Std}
/-- the trains up to the j-th of place i -/
def upTo (S : Std) (i j : Nat) : List Int := (S.take i).flatten ++ (S.getD i []).take j
theorem upTo_all {i : Nat} (hi : i < S.length) : upTo S i (S.getD i []).length = (S.take (i + 1)).flatten := by
  unfold upTo
  rw [List.take_length, List.take_add_one, List.flatten_append, List.getElem?_eq_getElem hi, List.getD_eq_getElem?_getD, List.getElem?_eq_getElem hi]
  simp
theorem upTo_step {i j : Nat} (hj : j < (S.getD i []).length) : upTo S i (j + 1) = upTo S i j ++ [(S.getD i []).getD j 0] := by
  unfold upTo
  rw [List.append_assoc, take_at 0 hj]
theorem upTo_take {i j : Nat} (hi : i < S.length) (hj : j ≤ (S.getD i []).length) : upTo S i j = S.flatten.take ((S.take i).flatten.length + j) := by
  rw [std_split hi, List.take_length_add_append, List.take_append_of_le_length hj]
  rfl
theorem seat_at (hS : Scn L S) {i j : Nat} (hi : i < S.length) (hj : j < (S.getD i []).length) : plT S ((S.getD i []).getD j 0) = i ∧ rkN (S.getD i []) ((S.getD i []).getD j 0) = j ∧ (S.getD i []).getD j 0 ∉ upTo S i j ∧ (upTo S i j).length < S.flatten.length := by
  have hm : (S.getD i []).getD j 0 ∈ S.getD i [] := getD_mem2 _ hj
  have e := std_pos hi hj
  have hlen : (S.take i).flatten.length + j < S.flatten.length := (List.getElem?_eq_some_iff.mp e).1
  have hz : ∀ k, k < (S.take i).flatten.length + j → S.flatten[k]? ≠ some ((S.getD i []).getD j 0) := fun k hk q => by
    have a := rk_at hS.nodup q
    have b := rk_at hS.nodup e
    omega
  have nin : (S.getD i []).getD j 0 ∉ upTo S i j := fun z => by
    rw [upTo_take hi (Nat.le_of_lt hj)] at z
    obtain ⟨k, hk, ek⟩ := List.mem_iff_getElem.mp z
    rw [List.length_take] at hk
    refine hz k (by omega) ?_
    rw [← ek, List.getElem_take]
    exact List.getElem?_eq_getElem _
  refine ⟨pl_of ⟨hi, hm, fun q hq z => nin ?_⟩, ?_, nin, ?_⟩
  · unfold upTo
    refine List.mem_append_left _ (List.mem_flatten.mpr ⟨S.getD q [], ?_, z⟩)
    rw [List.getD_eq_getElem?_getD, List.getElem?_eq_getElem (by omega)]
    refine List.mem_iff_getElem.mpr ⟨q, by rw [List.length_take]; omega, ?_⟩
    rw [List.getElem_take]
    rfl
  · have hn : (S.getD i []).Nodup := by
      rw [List.getD_eq_getElem?_getD, List.getElem?_eq_getElem hi]
      exact hS.nodup.sublist (List.sublist_flatten_of_mem (List.getElem_mem hi))
    exact rk_at hn (getD_of hj)
  · rw [upTo_take hi (Nat.le_of_lt hj), List.length_take]
    omega
theorem lex_ahead (hK : kindsOk L) (hS : Scn L S) {a b : Int} (ha : a ∈ S.flatten) (hb : b ∈ S.flatten) : HT.lexLt (rkI L S a) (rkI L S b) = aheadT L S a b := by
  have pa := pl_at hS ha
  unfold rkI aheadT
  rw [HT.lexLt_cons, HT.lexLt_cons, HT.lexLt_nil_nil]
  by_cases h : plT S a = plT S b
  · rw [if_pos (by rw [h])]
    unfold seatT
    have hk := hK (plT S a) (by have := pa.1; have := hS.len; omega)
    rw [← h]
    by_cases y : (L.getD (plT S a) z0).1 = "yard"
    · have nt : ¬ (L.getD (plT S a) z0).1 = "track" := fun z => by rw [z] at y; exact absurd y (by decide)
      rw [if_neg nt, if_neg nt, if_pos rfl, if_pos (.inr y)]
      simp
    · have t : (L.getD (plT S a) z0).1 = "track" := hk.1.resolve_left y
      have ny : ¬ (plT S a ≠ plT S a ∨ (L.getD (plT S a) z0).1 = "yard") := fun z => z.elim (fun z => z rfl) y
      rw [if_pos t, if_pos t, if_neg ny]
      by_cases e : rkN (S.getD (plT S a) []) a = rkN (S.getD (plT S a) []) b
      · rw [if_pos (by rw [e]), e]
        simp
      · rw [if_neg (by omega)]
        exact decide_eq_decide.mpr (by omega)
  · rw [if_neg (by omega), if_pos (.inl h)]
    exact decide_eq_decide.mpr (by omega)
theorem ahead_not {a b : Int} (h : aheadT L S a b = true) : aheadT L S b a = false := by
  unfold aheadT at h ⊢
  by_cases e : plT S a = plT S b
  · rw [← e] at h ⊢
    split at h <;> rename_i q
    · simp at h
    · rw [if_neg q]
      exact decide_eq_false (by have := of_decide_eq_true h; omega)
  · rw [if_pos (.inl e)] at h
    rw [if_pos (.inl (Ne.symm e))]
    exact decide_eq_false (by have := of_decide_eq_true h; omega)
end
def revB (L : Lin) (S1 S2 : Std) (a b : Int) : Bool := (aheadT L S1 a b && aheadT L S2 b a) || (aheadT L S1 b a && aheadT L S2 a b)
def ptD2 (a b : Int) : PyData := .tuple [.int a, .int b]
def revOne (L : Lin) (S1 S2 : Std) (a : Int) (bs : List Int) : List PyData := (bs.filter (revB L S1 S2 a)).map (ptD2 a)
def revTo (L : Lin) (S1 S2 : Std) (o : List Int) (i : Nat) : List PyData := ((List.range i).map fun i => revOne L S1 S2 (o.getD i 0) (o.drop (i + 1))).flatten
def revD (L : Lin) (S1 S2 : Std) : List PyData := revTo L S1 S2 (sortI S1.flatten) (sortI S1.flatten).length
section
variable {L : Lin} {S1 S2 : Std} {o : List Int}
theorem rev_next (i : Nat) : revTo L S1 S2 o (i + 1) = revTo L S1 S2 o i ++ revOne L S1 S2 (o.getD i 0) (o.drop (i + 1)) := by
  unfold revTo
  rw [List.range_succ, List.map_append, List.flatten_append]
  simp
theorem one_next {a : Int} {bs : List Int} {j : Nat} (h : j < bs.length) : revOne L S1 S2 a (bs.take (j + 1)) = revOne L S1 S2 a (bs.take j) ++ (if revB L S1 S2 a (bs.getD j 0) = true then [ptD2 a (bs.getD j 0)] else []) := by
  unfold revOne
  rw [take_at 0 h, List.filter_append, List.map_append]
  congr 1
  by_cases q : revB L S1 S2 a (bs.getD j 0) = true
  · rw [if_pos q, List.filter_cons_of_pos q]
    rfl
  · rw [if_neg q, List.filter_cons_of_neg q]
    rfl
theorem one_len (a : Int) (bs : List Int) : (revOne L S1 S2 a bs).length ≤ bs.length := by
  unfold revOne
  rw [List.length_map]
  exact List.length_filter_le _ _
theorem rev_len : ∀ i, (revTo L S1 S2 o i).length ≤ i * o.length
  | 0 => by simp [revTo]
  | i + 1 => by
    rw [rev_next, List.length_append, Nat.add_mul, Nat.one_mul]
    have := rev_len i
    have := one_len (L := L) (S1 := S1) (S2 := S2) (o.getD i 0) (o.drop (i + 1))
    rw [List.length_drop] at this
    omega
theorem revB_comm (a b : Int) : revB L S1 S2 a b = revB L S2 S1 a b := by
  unfold revB
  rw [Bool.and_comm (aheadT L S1 a b), Bool.and_comm (aheadT L S1 b a), Bool.or_comm]
theorem revB_self (a b : Int) : revB L S1 S1 a b = false := by
  unfold revB
  cases h : aheadT L S1 a b with
  | false => simp
  | true => rw [ahead_not h]; rfl
theorem rev_comm (h : sortI S1.flatten = sortI S2.flatten) : revD L S2 S1 = revD L S1 S2 := by
  unfold revD
  rw [← h]
  unfold revTo
  congr 1
  refine List.map_congr_left fun i _ => ?_
  unfold revOne
  rw [show revB L S2 S1 ((sortI S1.flatten).getD i 0) = revB L S1 S2 ((sortI S1.flatten).getD i 0) from funext fun b => revB_comm _ b]
theorem rev_self : revD L S1 S1 = [] := by
  unfold revD revTo
  refine List.flatten_eq_nil_iff.mpr fun l hl => ?_
  obtain ⟨i, _, rfl⟩ := List.mem_map.mp hl
  unfold revOne
  rw [List.map_eq_nil_iff, List.filter_eq_nil_iff]
  intro b _
  rw [revB_self]
  exact Bool.false_ne_true
theorem deep_rev (n : Nat) (h : S1.flatten.length ≤ 40) : Deep (n + 2) (.list (revD L S1 S2)) := by
  refine .list (n + 1) _ ?_ fun d hd => ?_
  · have := rev_len (L := L) (S1 := S1) (S2 := S2) (o := sortI S1.flatten) (sortI S1.flatten).length
    rw [(sortI_perm _).length_eq] at this
    unfold revD
    rw [(sortI_perm _).length_eq]
    exact Nat.lt_of_le_of_lt this (Nat.lt_of_le_of_lt (Nat.mul_le_mul h h) (by decide))
  · obtain ⟨l, hl, hd⟩ := List.mem_flatten.mp hd
    obtain ⟨i, _, rfl⟩ := List.mem_map.mp hl
    obtain ⟨b, _, rfl⟩ := List.mem_map.mp hd
    exact .tuple n _ (show (2 : Nat) < 100000 by decide) fun d hd => by
      rcases List.mem_cons.mp hd with e | hd
      · rw [e]; exact .int _ _
      · rw [List.mem_singleton.mp hd]; exact .int _ _
end
def oddT (z : Int) (S : Std) : Std := S.map fun l => l.map fun c => if c = z then c + 1 else c
theorem odd_flat (z : Int) (S : Std) : (oddT z S).flatten = S.flatten.map fun c => if c = z then c + 1 else c := by
  unfold oddT
  rw [List.map_flatten]
theorem odd_ne {z : Int} {S1 S2 : Std} (hp : S2.flatten.Perm S1.flatten) (hz : z ∈ S1.flatten) (hm : ∀ x ∈ S1.flatten, x ≤ z) : sortI S1.flatten ≠ sortI (oddT z S2).flatten := fun e => by
  have h1 : z + 1 ∈ (oddT z S2).flatten := by
    rw [odd_flat]
    exact List.mem_map.mpr ⟨z, hp.mem_iff.mpr hz, if_pos rfl⟩
  have h2 : z + 1 ∈ S1.flatten := (sortI_perm _).mem_iff.mp (e ▸ (sortI_perm _).mem_iff.mpr h1)
  have := hm _ h2
  omega
def phRanks : List PyData → (O → Prop) → Prop := fun ds Kt => ∃ (d e : PyData) (L : Lin) (S : Std), ds = [d, e] ∧ Ln d L ∧ St e S ∧ L.length ≤ 40 ∧ kindsOk L ∧ Scn L S ∧ S.flatten.length ≤ 40 ∧ Kt (.dct (seatX L S S.flatten))
def phRevX (cO : Addr) : List PyData → (O → Prop) → (XS → Prop) → Prop := fun ds Kt Ke => ∃ (d e1 e2 : PyData) (L : Lin) (S1 S2 : Std), ds = [d, e1, e2] ∧ Ln d L ∧ St e1 S1 ∧ St e2 S2 ∧ L.length ≤ 40 ∧ kindsOk L ∧ S1.flatten.length ≤ 40 ∧ S2.flatten.length ≤ 40 ∧
  (sortI S1.flatten = sortI S2.flatten → Scn L S1 ∧ Scn L S2 ∧ Kt (.own (revD L S1 S2))) ∧ (sortI S1.flatten ≠ sortI S2.flatten → Ke (cO, none))
def phDueR : List PyData → (O → Prop) → Prop := fun ds Kt => ∃ (L : Lin) (S1 S2 : Std), ds = [lineD L, stdD S1, stdD S2] ∧ Scn L S1 ∧ Scn L S2 ∧ L.length ≤ 40 ∧ kindsOk L ∧ S1.flatten.length ≤ 40 ∧ S2.flatten.length ≤ 40 ∧ sortI S1.flatten = sortI S2.flatten ∧ Kt (.own (revD L S1 S2))
def phIsRef : List PyData → (O → Prop) → Prop := fun ds Kt => ∃ (L : Lin) (S1 S2 : Std), ds = [lineD L, stdD S1, stdD S2] ∧ L.length ≤ 40 ∧ kindsOk L ∧ S1.flatten.length ≤ 40 ∧ S2.flatten.length ≤ 40 ∧ sortI S1.flatten ≠ sortI S2.flatten ∧ Kt (.fz (.bool true))
end Kx
end
section
set_option maxHeartbeats 4000000
namespace Kx
open PySem PySem.Spec PyProof.Rows L2 Dl
local macro_rules | `(tactic| walk_at "dd") => `(tactic| simp only [dC, dVar, dBin, dTest, onB, dNotT, dAndT, dOrT, dAndV, dOrV, dNotV, dIf, dNil, dCons, dCB, dSeqI, dRng1, dRng2, dEnI, dZpI, escs, esc, fix1, fixN, mov, vw, vk, see, seeAll, dNext, dSeq, dBreak, dCont, dExpr, dRet, dRetN, dIfS, dSet, dMulti, putN, gdName, gdNil, gdCons, gdTup, dFor, dWhile, dCallP, dCallV, vws, isScal, onBox, dCallB, dTup, dLst, dLstO, dIx, onI2, dNegI, dAdd2, addD, dEq2, eqK, dIn2, dLen, onI1, onI12, dInt1, onInts, dToL, dToT, onBs, dMeth, isOwn, rhoApp, rhoPopAt, dStore, dRep2, dNoP, dPart, dSlice, wipeG, dYes, dLc, dIsi, dIsNT, dIsN, nonOf, dAug, dUnp, dKwP, pick, dNewD, dUpd, onPairs, dSortD, onIntsA, onOlAt, dAppT, dCallS, dLenS, dIxS, dLc2, lcTurn, List.getD_cons_zero, List.getD_cons_succ, Nat.zero_le, zl1, zl2, zl3, zl4, zl5, zl6, zl7, zl8, zl9, zl10, zl11, ls1, ls2, ls3, ls4, eq_self, Nat.reduceAdd, Nat.reduceEqDiff, itemsOf_list, itemsOf_tuple, Dl.get, Dl.put, List.length_cons, List.length_nil, List.map_cons, List.map_nil, id, true_and, and_true, true_implies, forall_const, Bool.not_true, Bool.not_false, reduceCtorEq, false_implies, Nat.zero_add, ite_true, ite_false, Bool.true_eq_false, Bool.false_eq_true])
local macro_rules | `(tactic| walk_at "w") => `(tactic| conv => whnf)
local macro_rules | `(tactic| walk_at "cb") => `(tactic| ((conv => whnf); refine ⟨rfl, rfl, Nat.zero_lt_succ _, ?_⟩; (conv => whnf)))
local macro_rules | `(tactic| walk_at "cp") => `(tactic| ((conv => whnf); refine ⟨rfl, ?_⟩; (conv => whnf)))
local macro_rules | `(tactic| walk_at "a") => `(tactic| ((conv => whnf); repeat (first | (refine ⟨leS rfl, ?_⟩; (conv => whnf)) | (refine ⟨trivial, ?_⟩; (conv => whnf)) | (refine ⟨rfl, ?_⟩; (conv => whnf)) | (refine ⟨Nat.zero_lt_succ _, ?_⟩; (conv => whnf)) | (refine ⟨(show (2 : Nat) < _ from ltN rfl), ?_⟩; (conv => whnf)) | (refine ⟨(show Dl.inR _ from (by unfold Dl.inR; omega)), ?_⟩; (conv => whnf)) | (refine ⟨fun _ => ?_, fun z => Bool.noConfusion (show true = false from z)⟩; (conv => whnf)) | (refine ⟨fun z => Bool.noConfusion (show false = true from z), fun _ => ?_⟩; (conv => whnf))); try (first | refine norm_ex (by dsimp only [Dl.put, Dl.wipeG, Dl.putN, puts]) ?_ | refine norm_lc (by dsimp only [Dl.put, Dl.wipeG, Dl.putN, puts]) ?_)))
local macro_rules | `(tactic| walk_at "b") => `(tactic| ((try dsimp only [puts, Dl.put, Dl.putN, Dl.wipeG]); walk_at "a"))
local macro_rules | `(tactic| walk_at "d") => `(tactic| ((walk_at "b"); dsimp only))
section
variable {P : Program} {w : World} {K : PySem.W.Frag} {mg : Str → Option Value} {base : Heap}
theorem st_ranks_in (a0 a1 : O) : startG ["line", "standing", "place", "held", "at", "train"] [a0, a1] = [some a0, some a1, none, none, none, none] := rfl
theorem can_ranks_in (D : At K mg "ranks_in" s_ranks_in ["line", "standing"]) (B : Blt mg) : Can P w K mg base (1) "ranks_in" ["line", "standing"] (spP K 2 phRanks) := by
  refine D.canP sc_ranks_in rfl fun f cdv A outer s H E hr => ⟨_, (ds_single (ds_ret (de_dc2 sc_ranks_in.nd (vs1 := [4, 5]) (di_enum rfl B.enumerate (da_cons (dv 1) da_nil)) (blkOk_by (own := [("place", 2), ("held", 3), ("at", 4), ("train", 5)]) (by rfl)) (fun _ _ _ _ _ => (dg_tup (n := 2) (dgs_cons (dg_name 2 sc_ranks_in.nd) (dgs_cons (dg_name 3 sc_ranks_in.nd) dgs_nil)))) (fun _ _ _ _ _ => (di_enum rfl B.enumerate (da_cons (dv 3) da_nil))) (fun _ _ _ _ _ => (dg_tup (n := 2) (dgs_cons (dg_name 4 sc_ranks_in.nd) (dgs_cons (dg_name 5 sc_ranks_in.nd) dgs_nil)))) (fun _ _ _ _ _ => (dv 5)) (fun _ _ _ _ _ => (de_tup (da_cons (dv 2) (da_cons (de_if (dt_eq hr (de_ix (de_ix (dv 0) (dv 2)) de_int) de_str) (dv 4) de_int) da_nil))))))), fun ds Kt hl h => ?_⟩
  obtain ⟨d, e, L, S, rfl, hL, ⟨k, ps, hi, hn, hp⟩, h5, hK, hS, l1, hk⟩ := h
  simp only [List.map_cons, List.map_nil]
  rw [st_ranks_in]
  walk_at "b"
  rw [hi]
  walk_at "b"
  refine ⟨fun i acc Γ => acc = seatX L S (S.take i).flatten ∧ Γ = [some (.fz d), some (.fz e), none, none, none, none], ⟨rfl, rfl⟩, ?_, ?_⟩
  · rintro i acc Γ hlt ⟨rfl, rfl⟩
    have hlt : i < S.length := by omega
    have hiL : i < L.length := by have := hS.len; omega
    obtain ⟨k', h2⟩ := hp i hlt
    obtain ⟨kL, pL, kP, q1, q2, q3⟩ := ln_at hL hiL
    have hkd := hK i hiL
    walk_at "b"
    rw [h2]
    walk_at "b"
    refine ⟨fun j acc Γ => acc = seatX L S (upTo S i j) ∧ Γ = [some (.fz d), some (.fz e), some (.fz (.int i)), some (.fz (ps.getD i .none)), none, none], ⟨by unfold upTo; simp, rfl⟩, ?_, ?_⟩
    · rintro j acc Γ hj ⟨rfl, rfl⟩
      rw [List.length_map] at hj
      have ej : ((S.getD i []).map PyData.int).getD j .none = .int ((S.getD i []).getD j 0) := getD_map_int hj
      obtain ⟨s1, s2, s3, s4⟩ := seat_at hS hlt hj
      have st := pt_seat (L := L) (S := S) s3
      rw [← upTo_step hj] at st
      unfold rkI seatT at st
      rw [s1, s2] at st
      generalize (S.getD i []).getD j 0 = t at *
      rw [show (fun i_1 : Nat => PyData.tuple [.int (i_1 : Int), ((S.getD i []).map PyData.int).getD i_1 .none]) j = .tuple [.int (j : Int), .int t] by show PyData.tuple [.int (j : Int), ((S.getD i []).map PyData.int).getD j .none] = _; rw [ej]]
      walk_at "b"
      refine ⟨.inl t, rfl, ?_⟩
      walk_at "b"
      rw [q1]
      simp only []
      rw [atI_nat .none (by omega)]
      walk_at "b"
      rw [q3]
      walk_at "b"
      refine ⟨⟨shaped_kind hkd.1, shTr⟩, ?_⟩
      walk_at "b"
      have hl : (seatX L S (upTo S i j)).length < sizeLine := by
        unfold seatX
        exact lt_size (by rw [List.length_map]; omega)
      refine ⟨fun z => ?_, fun z => ?_⟩
      · have z : (L.getD i z0).1 = "track" := of_decide_eq_true z
        rw [if_pos z] at st
        walk_at "b"
        exact ⟨hl, st, rfl⟩
      · have z : ¬ (L.getD i z0).1 = "track" := of_decide_eq_false z
        rw [if_neg z] at st
        walk_at "b"
        exact ⟨hl, st, rfl⟩
    · rintro acc Γ ⟨rfl, rfl⟩
      rw [List.length_map, upTo_all hlt]
      exact ⟨rfl, rfl⟩
  · rintro acc Γ ⟨rfl, rfl⟩
    rw [hn, List.take_length]
    walk_at "b"
    exact hk
theorem st_reversed_pairs (a0 a1 a2 : O) : startG ["line", "one", "other", "mine", "its", "known", "at", "a", "b"] [a0, a1, a2] = [some a0, some a1, some a2, none, none, none, none, none, none] := rfl
theorem can_reversed_pairs (D : At K mg "reversed_pairs" s_reversed_pairs ["line", "one", "other"]) (B : Blt mg) {cOtherTrains : Addr} (c_check_trains : CanX P w K mg base 3 "check_trains" ["one", "other"] (spX K 2 (phCheckT cOtherTrains))) (c_ranks_in : Can P w K mg base 1 "ranks_in" ["line", "standing"] (spP K 2 phRanks)) (c_trains : Can P w K mg base 1 "trains" ["standing"] (spP K 1 phTrains)) : CanXW P w K mg base (4) "reversed_pairs" ["line", "one", "other"] ["other", "one", "line"] [2, 1, 0] (spX K 3 (phRevX cOtherTrains)) := by
  refine D.canXW ["other", "one", "line"] [2, 1, 0] (fun _ _ _ _ _ _ us hl => match us, hl with | [_, _, _], _ => rfl) sc_reversed_pairs rfl fun f cdv A outer s H E hr => ?_
  have tk := takes_of (X := cxOf (L2.CX P w) P w K mg base ["line", "one", "other", "mine", "its", "known", "at", "a", "b"] "reversed_pairs" (defScope s_reversed_pairs) f cdv A outer s H E) (E := E) rfl rfl rfl rfl
  exact ⟨_, (dx_cons (dx_expr (dxe_call c_check_trains tk hr (da_cons (dv 1) (da_cons (dv 2) da_nil))))
    (dx_cons (dx_of (ds_set 3 sc_reversed_pairs.nd (de_canP c_ranks_in hr (da_cons (dv 0) (da_cons (dv 1) da_nil)))))
    (dx_cons (dx_of (ds_set 4 sc_reversed_pairs.nd (de_canP c_ranks_in hr (da_cons (dv 0) (da_cons (dv 2) da_nil)))))
    (dx_cons (dx_of (ds_set 5 sc_reversed_pairs.nd (de_canP c_trains hr (da_cons (dv 1) da_nil))))
    (dx_single (dx_of (ds_ret (de_lc2 sc_reversed_pairs.nd (vs1 := [8]) (di_enum rfl B.enumerate (da_cons (dv 5) da_nil)) (blkOk_by (own := [("at", 6), ("a", 7), ("b", 8)]) (by rfl)) (fun _ _ _ _ _ => (dg_tup (n := 2) (dgs_cons (dg_name 6 sc_reversed_pairs.nd) (dgs_cons (dg_name 7 sc_reversed_pairs.nd) dgs_nil)))) (fun _ _ _ _ _ => dts_nil) (fun _ _ _ _ _ => (di_seq (de_slice (dv 5) (dp_some (de_add (dv 6) de_int)) dp_none))) (fun _ _ _ _ _ => (dg_name 8 sc_reversed_pairs.nd)) (fun _ _ _ _ _ => (dts_one (dt_w (dw_or (dt_w (dw_and (dt_ltT hr (de_dix (hu_in hr) (dv 3) (dv 7)) (de_dix (hu_in hr) (dv 3) (dv 8))) (dw_and1 (dt_ltT hr (de_dix (hu_in hr) (dv 4) (dv 8)) (de_dix (hu_in hr) (dv 4) (dv 7)))))) (dw_or1 (dt_w (dw_and (dt_ltT hr (de_dix (hu_in hr) (dv 3) (dv 8)) (de_dix (hu_in hr) (dv 3) (dv 7))) (dw_and1 (dt_ltT hr (de_dix (hu_in hr) (dv 4) (dv 7)) (de_dix (hu_in hr) (dv 4) (dv 8))))))))))) (fun _ _ _ _ _ => (de_tup (da_cons (dv 7) (da_cons (dv 8) da_nil)))))))))))), fun ds Kt Ke hl h => by
    obtain ⟨d, e1, e2, L, S1, S2, rfl, hL, h1, h2, h5, hK, l1, l2, hk, hke⟩ := h
    simp only [List.map_cons, List.map_nil]
    rw [st_reversed_pairs]
    walk_at "b"
    refine ⟨e1, e2, S1, S2, rfl, h1, h2, l1, l2, fun q => ?_, hke⟩
    obtain ⟨hS1, hS2, hk⟩ := hk q
    have hp : S1.flatten.Perm S2.flatten := (sortI_perm _).symm.trans (q ▸ sortI_perm _)
    walk_at "b"
    refine ⟨d, e1, L, S1, rfl, hL, h1, h5, hK, hS1, l1, ?_⟩
    walk_at "b"
    refine ⟨d, e2, L, S2, rfl, hL, h2, h5, hK, hS2, l2, ?_⟩
    walk_at "b"
    refine ⟨e1, S1, rfl, h1, l1, ?_⟩
    walk_at "b"
    have hlo : (sortI S1.flatten).length ≤ 40 := by rw [(sortI_perm _).length_eq]; exact l1
    have hm1 : ∀ x ∈ sortI S1.flatten, x ∈ S1.flatten := fun x hx => (sortI_perm _).mem_iff.mp hx
    have hm2 : ∀ x ∈ sortI S1.flatten, x ∈ S2.flatten := fun x hx => hp.mem_iff.mp (hm1 x hx)
    have hk : Kt (.own (revTo L S1 S2 (sortI S1.flatten) (sortI S1.flatten).length)) := hk
    generalize sortI S1.flatten = o at hlo hm1 hm2 hk ⊢
    refine ⟨fun i acc Γ => acc = revTo L S1 S2 o i ∧ Γ = [some (.fz d), some (.fz e1), some (.fz e2), some (.dct (seatX L S1 S1.flatten)), some (.dct (seatX L S2 S2.flatten)), some (.fz (.list (o.map .int))), none, none, none], ⟨rfl, rfl⟩, ?_, ?_⟩
    · rintro i acc Γ hi ⟨rfl, rfl⟩
      rw [List.length_map] at hi
      rw [show (fun i : Nat => PyData.tuple [.int (i : Int), (o.map PyData.int).getD i .none]) i = .tuple [.int (i : Int), .int (o.getD i 0)] by show PyData.tuple [.int (i : Int), (o.map PyData.int).getD i .none] = _; rw [getD_map_int hi]]
      have ha1 := hm1 _ (getD_mem2 0 hi)
      have ha2 := hm2 _ (getD_mem2 0 hi)
      walk_at "b"
      rw [show (i : Int) + 1 = ((i + 1 : Nat) : Int) from rfl, cut_from]
      refine ⟨fun j acc Γ => acc = revTo L S1 S2 o i ++ revOne L S1 S2 (o.getD i 0) ((o.drop (i + 1)).take j) ∧ Γ = [some (.fz d), some (.fz e1), some (.fz e2), some (.dct (seatX L S1 S1.flatten)), some (.dct (seatX L S2 S2.flatten)), some (.fz (.list (o.map .int))), some (.fz (.int i)), some (.fz (.int (o.getD i 0))), none], ⟨by unfold revOne; simp, rfl⟩, ?_, ?_⟩
      · rintro j acc Γ hj ⟨rfl, rfl⟩
        rw [List.length_map] at hj
        rw [show (fun i_1 => ((o.drop (i + 1)).map PyData.int).getD i_1 .none) j = .int ((o.drop (i + 1)).getD j 0) from getD_map_int hj]
        have hbm : (o.drop (i + 1)).getD j 0 ∈ o := List.mem_of_mem_drop (getD_mem2 0 hj)
        have hb1 := hm1 _ hbm
        have hb2 := hm2 _ hbm
        have en := one_next (L := L) (S1 := S1) (S2 := S2) (a := o.getD i 0) hj
        have hlen : (revTo L S1 S2 o i ++ revOne L S1 S2 (o.getD i 0) ((o.drop (i + 1)).take j)).length < sizeLine := by
          have a1 := rev_len (L := L) (S1 := S1) (S2 := S2) (o := o) i
          have a2 := one_len (L := L) (S1 := S1) (S2 := S2) (o.getD i 0) ((o.drop (i + 1)).take j)
          have a4 : (o.drop (i + 1)).length = o.length - (i + 1) := List.length_drop
          rw [List.length_take] at a2
          have a3 : i * o.length ≤ 40 * 40 := Nat.mul_le_mul (by omega) hlo
          exact Nat.lt_of_lt_of_le (show _ < 100000 by rw [List.length_append]; omega) (big_size (by decide))
        generalize (o.drop (i + 1)).getD j 0 = b at *
        generalize o.getD i 0 = a at *
        have ga1 := lk_seat (L := L) (S := S1) ha1
        have ga2 := lk_seat (L := L) (S := S2) ha2
        have gb1 := lk_seat (L := L) (S := S1) hb1
        have gb2 := lk_seat (L := L) (S := S2) hb2
        have x1 := lex_ahead hK hS1 ha1 hb1
        have x2 := lex_ahead hK hS2 hb2 ha2
        have x3 := lex_ahead hK hS1 hb1 ha1
        have x4 := lex_ahead hK hS2 ha2 hb2
        walk_at "b"
        rw [ga1]
        walk_at "b"
        rw [gb1]
        walk_at "b"
        refine ⟨rkI L S1 a, rkI L S1 b, rfl, rfl, ?_⟩
        rw [x1]
        walk_at "b"
        refine ⟨fun z1 => ?_, fun z1 => ?_⟩
        · walk_at "b"
          rw [gb2]
          walk_at "b"
          rw [ga2]
          walk_at "b"
          refine ⟨rkI L S2 b, rkI L S2 a, rfl, rfl, ?_⟩
          rw [x2]
          walk_at "b"
          refine ⟨fun z2 => ?_, fun z2 => ?_⟩
          · have hR : revB L S1 S2 a b = true := by unfold revB; rw [z1, z2]; rfl
            rw [if_pos hR] at en
            walk_at "b"
            exact ⟨hlen, by rw [en, List.append_assoc]; rfl, rfl⟩
          · walk_at "b"
            rw [gb1]
            walk_at "b"
            rw [ga1]
            walk_at "b"
            refine ⟨rkI L S1 b, rkI L S1 a, rfl, rfl, ?_⟩
            rw [x3]
            walk_at "b"
            refine ⟨fun z3 => ?_, fun z3 => ?_⟩
            · walk_at "b"
              rw [ga2]
              walk_at "b"
              rw [gb2]
              walk_at "b"
              refine ⟨rkI L S2 a, rkI L S2 b, rfl, rfl, ?_⟩
              rw [x4]
              walk_at "b"
              refine ⟨fun z4 => ?_, fun z4 => ?_⟩
              · have hR : revB L S1 S2 a b = true := by unfold revB; rw [z1, z2, z3, z4]; rfl
                rw [if_pos hR] at en
                walk_at "b"
                exact ⟨hlen, by rw [en, List.append_assoc]; rfl, rfl⟩
              · have hR : ¬ revB L S1 S2 a b = true := by unfold revB; rw [z1, z2, z3, z4]; simp
                rw [if_neg hR, List.append_nil] at en
                walk_at "b"
                exact ⟨by rw [en], rfl⟩
            · have hR : ¬ revB L S1 S2 a b = true := by unfold revB; rw [z1, z2, z3]; simp
              rw [if_neg hR, List.append_nil] at en
              walk_at "b"
              exact ⟨by rw [en], rfl⟩
        · walk_at "b"
          rw [gb1]
          walk_at "b"
          rw [ga1]
          walk_at "b"
          refine ⟨rkI L S1 b, rkI L S1 a, rfl, rfl, ?_⟩
          rw [x3]
          walk_at "b"
          refine ⟨fun z3 => ?_, fun z3 => ?_⟩
          · walk_at "b"
            rw [ga2]
            walk_at "b"
            rw [gb2]
            walk_at "b"
            refine ⟨rkI L S2 a, rkI L S2 b, rfl, rfl, ?_⟩
            rw [x4]
            walk_at "b"
            refine ⟨fun z4 => ?_, fun z4 => ?_⟩
            · have hR : revB L S1 S2 a b = true := by unfold revB; rw [z1, z3, z4]; rfl
              rw [if_pos hR] at en
              walk_at "b"
              exact ⟨hlen, by rw [en, List.append_assoc]; rfl, rfl⟩
            · have hR : ¬ revB L S1 S2 a b = true := by unfold revB; rw [z1, z3, z4]; simp
              rw [if_neg hR, List.append_nil] at en
              walk_at "b"
              exact ⟨by rw [en], rfl⟩
          · have hR : ¬ revB L S1 S2 a b = true := by unfold revB; rw [z1, z3]; simp
            rw [if_neg hR, List.append_nil] at en
            walk_at "b"
            exact ⟨by rw [en], rfl⟩
      · rintro acc Γ ⟨rfl, rfl⟩
        refine ⟨?_, rfl⟩
        rw [List.length_map, List.take_length, rev_next]
    · rintro acc Γ ⟨rfl, rfl⟩
      rw [List.length_map]
      walk_at "b"
      exact hk⟩
end
end Kx
end
section
set_option maxHeartbeats 4000000
namespace Kx
open PySem PySem.Spec PyProof.Rows L2 Dl
local macro_rules | `(tactic| walk_at "dd") => `(tactic| simp only [dC, dVar, dBin, dTest, onB, dNotT, dAndT, dOrT, dAndV, dOrV, dNotV, dIf, dNil, dCons, dCB, dSeqI, dRng1, dRng2, dEnI, dZpI, escs, esc, fix1, fixN, mov, vw, vk, see, seeAll, dNext, dSeq, dBreak, dCont, dExpr, dRet, dRetN, dIfS, dSet, dMulti, putN, gdName, gdNil, gdCons, gdTup, dFor, dWhile, dCallP, dCallV, vws, isScal, onBox, dCallB, dTup, dLst, dLstO, dIx, onI2, dNegI, dAdd2, addD, dEq2, eqK, dIn2, dLen, onI1, onI12, dInt1, onInts, dToL, dToT, onBs, dMeth, isOwn, rhoApp, rhoPopAt, dStore, dRep2, dNoP, dPart, dSlice, wipeG, dYes, dLc, dIsi, dIsNT, dIsN, nonOf, dAug, dUnp, dKwP, pick, dNewD, dUpd, onPairs, dSortD, onIntsA, onOlAt, dAppT, dCallS, dLenS, dIxS, dLc2, lcTurn, List.getD_cons_zero, List.getD_cons_succ, Nat.zero_le, zl1, zl2, zl3, zl4, zl5, zl6, zl7, zl8, zl9, zl10, zl11, ls1, ls2, ls3, ls4, eq_self, Nat.reduceAdd, Nat.reduceEqDiff, itemsOf_list, itemsOf_tuple, Dl.get, Dl.put, List.length_cons, List.length_nil, List.map_cons, List.map_nil, id, true_and, and_true, true_implies, forall_const, Bool.not_true, Bool.not_false, reduceCtorEq, false_implies, Nat.zero_add, ite_true, ite_false, Bool.true_eq_false, Bool.false_eq_true])
local macro_rules | `(tactic| walk_at "w") => `(tactic| conv => whnf)
local macro_rules | `(tactic| walk_at "cb") => `(tactic| ((conv => whnf); refine ⟨rfl, rfl, Nat.zero_lt_succ _, ?_⟩; (conv => whnf)))
local macro_rules | `(tactic| walk_at "cp") => `(tactic| ((conv => whnf); refine ⟨rfl, ?_⟩; (conv => whnf)))
local macro_rules | `(tactic| walk_at "a") => `(tactic| ((conv => whnf); repeat (first | (refine ⟨leS rfl, ?_⟩; (conv => whnf)) | (refine ⟨trivial, ?_⟩; (conv => whnf)) | (refine ⟨rfl, ?_⟩; (conv => whnf)) | (refine ⟨Nat.zero_lt_succ _, ?_⟩; (conv => whnf)) | (refine ⟨(show (2 : Nat) < _ from ltN rfl), ?_⟩; (conv => whnf)) | (refine ⟨(show Dl.inR _ from (by unfold Dl.inR; omega)), ?_⟩; (conv => whnf)) | (refine ⟨fun _ => ?_, fun z => Bool.noConfusion (show true = false from z)⟩; (conv => whnf)) | (refine ⟨fun z => Bool.noConfusion (show false = true from z), fun _ => ?_⟩; (conv => whnf))); try (first | refine norm_ex (by dsimp only [Dl.put, Dl.wipeG, Dl.putN, puts]) ?_ | refine norm_lc (by dsimp only [Dl.put, Dl.wipeG, Dl.putN, puts]) ?_)))
local macro_rules | `(tactic| walk_at "b") => `(tactic| ((try dsimp only [puts, Dl.put, Dl.putN, Dl.wipeG]); walk_at "a"))
local macro_rules | `(tactic| walk_at "d") => `(tactic| ((walk_at "b"); dsimp only))
section
variable {P : Program} {w : World} {K : PySem.W.Frag} {mg : Str → Option Value} {base : Heap}
theorem st_due (a0 a1 a2 : O) : startG ["_law_rail_here", "_law_park", "_law_goal", "_law_found", "_law_every", "_law_at", "_law_first", "_law_second"] [a0, a1, a2] = [some a0, some a1, some a2, none, none, none, none, none] := rfl
theorem can_due (D : At K mg "_law_due" s_due ["_law_rail_here", "_law_park", "_law_goal"]) (B : Blt mg) (c_carts : Can P w K mg base 1 "_law_carts" ["_law_park"] (spP K 1 phCarts)) (c_ahead : Can P w K mg base 2 "_law_ahead" ["_law_rail_here", "_law_park", "_law_first", "_law_second"] (spP K 4 phAhead)) : Can P w K mg base (3) "_law_due" ["_law_rail_here", "_law_park", "_law_goal"] (spP K 3 phDueR) := by
  refine D.canP sc_due rfl fun f cdv A outer s H E hr => ⟨_, (ds_cons (ds_par 3 4 sc_due.nd (da_cons (de_lst da_nil) (da_cons (de_canP c_carts hr (da_cons (dv 1) da_nil)) da_nil)))
    (ds_cons (ds_for (di_enum rfl B.enumerate (da_cons (dv 4) da_nil)) (dg_tup (n := 2) (dgs_cons (dg_name 5 sc_due.nd) (dgs_cons (dg_name 6 sc_due.nd) dgs_nil)))
      (ds_single (ds_for (di_seq (de_slice (dv 4) (dp_some (de_add (dv 5) de_int)) dp_none)) (dg_name 7 sc_due.nd)
      (ds_cons (ds_if (dt_w (dw_and (dt_val (de_canP c_ahead hr (da_cons (dv 0) (da_cons (dv 1) (da_cons (dv 6) (da_cons (dv 7) da_nil)))))) (dw_and1 (dt_val (de_canP c_ahead hr (da_cons (dv 0) (da_cons (dv 2) (da_cons (dv 7) (da_cons (dv 6) da_nil))))))))) (ds_single (ds_expr (de_append 3 (pv 3) (da_cons (de_tup (da_cons (dv 6) (da_cons (dv 7) da_nil))) da_nil)))) ds_nil)
    (ds_single (ds_if (dt_w (dw_and (dt_val (de_canP c_ahead hr (da_cons (dv 0) (da_cons (dv 1) (da_cons (dv 7) (da_cons (dv 6) da_nil)))))) (dw_and1 (dt_val (de_canP c_ahead hr (da_cons (dv 0) (da_cons (dv 2) (da_cons (dv 6) (da_cons (dv 7) da_nil))))))))) (ds_single (ds_expr (de_append 3 (pv 3) (da_cons (de_tup (da_cons (dv 6) (da_cons (dv 7) da_nil))) da_nil)))) ds_nil))))))
    (ds_single (ds_ret (dv 3))))), fun ds Kt hl h => ?_⟩
  obtain ⟨L, S1, S2, rfl, hS1, hS2, h5, hK, l1, l2, q, hk⟩ := h
  simp only [List.map_cons, List.map_nil]
  rw [st_due]
  have hp : S1.flatten.Perm S2.flatten := (sortI_perm _).symm.trans (q ▸ sortI_perm _)
  walk_at "b"
  refine ⟨_, S1, rfl, st_std S1, l1, ?_⟩
  walk_at "b"
  have hlo : (sortI S1.flatten).length ≤ 40 := by rw [(sortI_perm _).length_eq]; exact l1
  have hm1 : ∀ x ∈ sortI S1.flatten, x ∈ S1.flatten := fun x hx => (sortI_perm _).mem_iff.mp hx
  have hm2 : ∀ x ∈ sortI S1.flatten, x ∈ S2.flatten := fun x hx => hp.mem_iff.mp (hm1 x hx)
  have hk : Kt (.own (revTo L S1 S2 (sortI S1.flatten) (sortI S1.flatten).length)) := hk
  generalize sortI S1.flatten = o at hlo hm1 hm2 hk ⊢
  refine ⟨fun i Γ => ∃ a5 a6 a7 : Option O, Γ = [some (.fz (lineD L)), some (.fz (stdD S1)), some (.fz (stdD S2)), some (.own (revTo L S1 S2 o i)), some (.fz (.list (o.map .int))), a5, a6, a7], ⟨_, _, _, rfl⟩, ?_, ?_⟩
  · rintro i Γ hi ⟨a5, a6, a7, rfl⟩
    rw [List.length_map] at hi
    rw [show (fun i : Nat => PyData.tuple [.int (i : Int), (o.map PyData.int).getD i .none]) i = .tuple [.int (i : Int), .int (o.getD i 0)] by show PyData.tuple [.int (i : Int), (o.map PyData.int).getD i .none] = _; rw [getD_map_int hi]]
    have ha1 := hm1 _ (getD_mem2 0 hi)
    have ha2 := hm2 _ (getD_mem2 0 hi)
    walk_at "b"
    rw [show (i : Int) + 1 = ((i + 1 : Nat) : Int) from rfl, cut_from]
    refine ⟨fun j Γ => ∃ a7 : Option O, Γ = [some (.fz (lineD L)), some (.fz (stdD S1)), some (.fz (stdD S2)), some (.own (revTo L S1 S2 o i ++ revOne L S1 S2 (o.getD i 0) ((o.drop (i + 1)).take j))), some (.fz (.list (o.map .int))), some (.fz (.int i)), some (.fz (.int (o.getD i 0))), a7], ⟨a7, by unfold revOne; simp⟩, ?_, ?_⟩
    · rintro j Γ hj ⟨a7, rfl⟩
      rw [List.length_map] at hj
      rw [show (fun i_1 => ((o.drop (i + 1)).map PyData.int).getD i_1 .none) j = .int ((o.drop (i + 1)).getD j 0) from getD_map_int hj]
      have hbm : (o.drop (i + 1)).getD j 0 ∈ o := List.mem_of_mem_drop (getD_mem2 0 hj)
      have hb1 := hm1 _ hbm
      have hb2 := hm2 _ hbm
      have en := one_next (L := L) (S1 := S1) (S2 := S2) (a := o.getD i 0) hj
      have hlen : (revTo L S1 S2 o i ++ revOne L S1 S2 (o.getD i 0) ((o.drop (i + 1)).take j)).length < sizeLine := by
        have a1 := rev_len (L := L) (S1 := S1) (S2 := S2) (o := o) i
        have a2 := one_len (L := L) (S1 := S1) (S2 := S2) (o.getD i 0) ((o.drop (i + 1)).take j)
        have a4 : (o.drop (i + 1)).length = o.length - (i + 1) := List.length_drop
        rw [List.length_take] at a2
        have a3 : i * o.length ≤ 40 * 40 := Nat.mul_le_mul (by omega) hlo
        exact Nat.lt_of_lt_of_le (show _ < 100000 by rw [List.length_append]; omega) (big_size (by decide))
      generalize (o.drop (i + 1)).getD j 0 = b at *
      generalize o.getD i 0 = a at *
      walk_at "b"
      refine ⟨L, S1, a, b, rfl, hS1, h5, hK, l1, ha1, hb1, ?_⟩
      walk_at "b"
      refine ⟨fun z1 => ?_, fun z1 => ?_⟩
      · walk_at "b"
        refine ⟨L, S2, b, a, rfl, hS2, h5, hK, l2, hb2, ha2, ?_⟩
        walk_at "b"
        refine ⟨fun z2 => ?_, fun z2 => ?_⟩
        · have z3 := ahead_not z1
          walk_at "b"
          refine ⟨hlen, ?_⟩
          walk_at "b"
          refine ⟨L, S1, b, a, rfl, hS1, h5, hK, l1, hb1, ha1, ?_⟩
          walk_at "b"
          refine ⟨fun z => absurd z (by rw [z3]; exact Bool.false_ne_true), fun _ => ?_⟩
          have hR : revB L S1 S2 a b = true := by unfold revB; rw [z1, z2]; simp
          rw [if_pos hR] at en
          walk_at "b"
          exact ⟨_, by rw [en, List.append_assoc]; rfl⟩
        · have z3 := ahead_not z1
          walk_at "b"
          refine ⟨L, S1, b, a, rfl, hS1, h5, hK, l1, hb1, ha1, ?_⟩
          walk_at "b"
          refine ⟨fun z => absurd z (by rw [z3]; exact Bool.false_ne_true), fun _ => ?_⟩
          have hR : ¬ revB L S1 S2 a b = true := by unfold revB; rw [z1, z2, z3]; simp
          rw [if_neg hR, List.append_nil] at en
          walk_at "b"
          exact ⟨_, by rw [en]⟩
      · walk_at "b"
        refine ⟨L, S1, b, a, rfl, hS1, h5, hK, l1, hb1, ha1, ?_⟩
        walk_at "b"
        refine ⟨fun z3 => ?_, fun z3 => ?_⟩
        · walk_at "b"
          refine ⟨L, S2, a, b, rfl, hS2, h5, hK, l2, ha2, hb2, ?_⟩
          walk_at "b"
          refine ⟨fun z4 => ?_, fun z4 => ?_⟩
          · walk_at "b"
            refine ⟨hlen, ?_⟩
            have hR : revB L S1 S2 a b = true := by unfold revB; rw [z1, z3, z4]; simp
            rw [if_pos hR] at en
            walk_at "b"
            exact ⟨_, by rw [en, List.append_assoc]; rfl⟩
          · have hR : ¬ revB L S1 S2 a b = true := by unfold revB; rw [z1, z3, z4]; simp
            rw [if_neg hR, List.append_nil] at en
            walk_at "b"
            exact ⟨_, by rw [en]⟩
        · have hR : ¬ revB L S1 S2 a b = true := by unfold revB; rw [z1, z3]; simp
          rw [if_neg hR, List.append_nil] at en
          walk_at "b"
          exact ⟨_, by rw [en]⟩
    · rintro Γ ⟨a7, rfl⟩
      rw [List.length_map, List.take_length, ← rev_next]
      walk_at "b"
      exact ⟨_, _, _, rfl⟩
  · rintro Γ ⟨a5, a6, a7, rfl⟩
    rw [List.length_map]
    walk_at "b"
    exact hk
theorem st_is_refused (a0 a1 a2 : O) : startG ["_law_rail_here", "_law_park", "_law_goal", "_law_caught", "error"] [a0, a1, a2] = [some a0, some a1, some a2, none, none] := rfl
theorem can_is_refused (D : At K mg "_law_is_refused" s_is_refused ["_law_rail_here", "_law_park", "_law_goal"]) (B : Blt mg) {cBarred cCrossed cNoTrain cOtherTrains : Addr} (m_Barred : mg "Barred" = some (.ref cBarred)) (m_Crossed : mg "Crossed" = some (.ref cCrossed)) (m_NoTrain : mg "NoTrain" = some (.ref cNoTrain)) (m_OtherTrains : mg "OtherTrains" = some (.ref cOtherTrains)) (xm : PySem.W.exmAny K (.ref cOtherTrains) [.ref cBarred, .ref cCrossed, .ref cNoTrain, .ref cOtherTrains] = some true) (ec : ExcC K cOtherTrains) (k1 : PySem.W.kitOne K (.ref cOtherTrains) (.ref cOtherTrains) = some true) (k2 : PySem.W.kitOne K (.ref cOtherTrains) (.type "ValueError") = some true) (k3 : PySem.W.kitOne K (.ref cOtherTrains) (.ref cCrossed) = some false) (c_reversed_pairs : CanX P w K mg base 4 "reversed_pairs" ["line", "one", "other"] (spX K 3 (phRevX cOtherTrains))) : Can P w K mg base (5) "_law_is_refused" ["_law_rail_here", "_law_park", "_law_goal"] (spP K 3 phIsRef) := by
  refine D.canP sc_is_refused rfl fun f cdv A outer s H E hr => ⟨_, (ds_cons (ds_set 3 sc_is_refused.nd de_non)
    (ds_cons (ds_try 4 sc_is_refused.nd (exTest_tup (.cons ⟨rfl, by decide, .inl m_Barred⟩ (by rfl) (.cons ⟨rfl, by decide, .inl m_Crossed⟩ (by rfl) (.cons ⟨rfl, by decide, .inl m_NoTrain⟩ (by rfl) (.cons ⟨rfl, by decide, .inl m_OtherTrains⟩ (by rfl) .nil)))) (show 4 ≤ sizeLine by decide)) (fun W pn xe tk _ => (dx_single (dx_expr (dxe_call c_reversed_pairs tk hr (da_cons (dv 0) (da_cons (dv 1) (da_cons (dv 2) da_nil))))))) (ds_copyS 3 4 sc_is_refused.nd))
    (ds_single (ds_ret (de_and (de_isX (.own m_OtherTrains rfl rfl) (dv 3) B.isinstance) (de_and (de_isX (.blt B.ValueError PyProof.Rows.Boot.«ValueError» (by decide) rfl rfl) (dv 3) B.isinstance) (de_one (de_not (de_isX (.own m_Crossed rfl rfl) (dv 3) B.isinstance))))))))), fun ds Kt hl h => ?_⟩
  obtain ⟨L, S1, S2, rfl, h5, hK, l1, l2, hne, hk⟩ := h
  simp only [List.map_cons, List.map_nil]
  rw [st_is_refused]
  walk_at "b"
  refine ⟨_, _, _, L, S1, S2, rfl, ln_line L, st_std S1, st_std S2, h5, hK, l1, l2, fun z => (hne z).elim, fun _ => ⟨xm, ?_⟩⟩
  walk_at "b"
  refine ⟨_, rfl, ?_⟩
  walk_at "b"
  refine .inl ⟨3, _, rfl, rfl, ec, true, k1, ?_⟩
  walk_at "b"
  refine .inl ⟨3, _, rfl, rfl, ec, true, k2, ?_⟩
  walk_at "b"
  refine .inl ⟨3, _, rfl, rfl, ec, false, k3, ?_⟩
  walk_at "b"
  exact hk
end
end Kx
end
section
set_option maxHeartbeats 4000000
namespace Dl
open PySem PySem.Spec PyProof.Rows L2
end Dl
end
section
set_option maxHeartbeats 4000000
namespace Dl
open PySem PySem.Spec PyProof.Rows L2
end Dl
end
section
set_option maxHeartbeats 4000000
namespace Kx
open PySem PySem.Spec PyProof.Rows L2 Dl
local macro_rules | `(tactic| walk_at "dd") => `(tactic| simp only [dC, dVar, dBin, dTest, onB, dNotT, dAndT, dOrT, dAndV, dOrV, dNotV, dIf, dNil, dCons, dCB, dSeqI, dRng1, dRng2, dEnI, dZpI, escs, esc, fix1, fixN, mov, vw, vk, see, seeAll, dNext, dSeq, dBreak, dCont, dExpr, dRet, dRetN, dIfS, dSet, dMulti, putN, gdName, gdNil, gdCons, gdTup, dFor, dWhile, dCallP, dCallV, vws, isScal, onBox, dCallB, dTup, dLst, dLstO, dIx, onI2, dNegI, dAdd2, addD, dEq2, eqK, dIn2, dLen, onI1, onI12, dInt1, onInts, dToL, dToT, onBs, dMeth, isOwn, rhoApp, rhoPopAt, dStore, dRep2, dNoP, dPart, dSlice, wipeG, dYes, dLc, dIsi, dIsNT, dIsN, nonOf, dAug, dUnp, dKwP, pick, dNewD, dUpd, onPairs, dSortD, onIntsA, onOlAt, dAppT, dCallS, dLenS, dIxS, dLc2, lcTurn, List.getD_cons_zero, List.getD_cons_succ, Nat.zero_le, zl1, zl2, zl3, zl4, zl5, zl6, zl7, zl8, zl9, zl10, zl11, ls1, ls2, ls3, ls4, eq_self, Nat.reduceAdd, Nat.reduceEqDiff, itemsOf_list, itemsOf_tuple, Dl.get, Dl.put, List.length_cons, List.length_nil, List.map_cons, List.map_nil, id, true_and, and_true, true_implies, forall_const, Bool.not_true, Bool.not_false, reduceCtorEq, false_implies, Nat.zero_add, ite_true, ite_false, Bool.true_eq_false, Bool.false_eq_true])
local macro_rules | `(tactic| walk_at "w") => `(tactic| conv => whnf)
local macro_rules | `(tactic| walk_at "cb") => `(tactic| ((conv => whnf); refine ⟨rfl, rfl, Nat.zero_lt_succ _, ?_⟩; (conv => whnf)))
local macro_rules | `(tactic| walk_at "cp") => `(tactic| ((conv => whnf); refine ⟨rfl, ?_⟩; (conv => whnf)))
local macro_rules | `(tactic| walk_at "a") => `(tactic| ((conv => whnf); repeat (first | (refine ⟨leS rfl, ?_⟩; (conv => whnf)) | (refine ⟨trivial, ?_⟩; (conv => whnf)) | (refine ⟨rfl, ?_⟩; (conv => whnf)) | (refine ⟨Nat.zero_lt_succ _, ?_⟩; (conv => whnf)) | (refine ⟨(show (2 : Nat) < _ from ltN rfl), ?_⟩; (conv => whnf)) | (refine ⟨(show Dl.inR _ from (by unfold Dl.inR; omega)), ?_⟩; (conv => whnf)) | (refine ⟨fun _ => ?_, fun z => Bool.noConfusion (show true = false from z)⟩; (conv => whnf)) | (refine ⟨fun z => Bool.noConfusion (show false = true from z), fun _ => ?_⟩; (conv => whnf))); try (first | refine norm_ex (by dsimp only [Dl.put, Dl.wipeG, Dl.putN, puts]) ?_ | refine norm_lc (by dsimp only [Dl.put, Dl.wipeG, Dl.putN, puts]) ?_)))
local macro_rules | `(tactic| walk_at "b") => `(tactic| ((try dsimp only [puts, Dl.put, Dl.putN, Dl.wipeG]); walk_at "a"))
local macro_rules | `(tactic| walk_at "d") => `(tactic| ((walk_at "b"); dsimp only))
section
variable {P : Program} {w : World} {K : PySem.W.Frag} {mg : Str → Option Value} {base : Heap}
def phRight : Nat → List PyData → (O → Nat → Prop) → Prop := fun m ds Kt => ds = [] ∧ m < 2 ^ 55 ∧ ∀ m', m' ≤ m + 10000 → Kt (.fz (.bool true)) m'
theorem st_right (a0 : O) : startG ["_law_box_here", "_law_turn", "_law_rail_here", "_law_park", "_law_every", "_law_kept", "_law_goal", "_law_due_here", "_law_soft", "_law_told", "_law_odd", "_law_cart", "_law_some"] [a0] = [some a0, none, none, none, none, none, none, none, none, none, none, none, none] := rfl
theorem can_right (D : At K mg "_law_right" s_right ["_law_box_here"]) (B : Blt mg) (c_scene : Can P w K mg base 5 "_law_scene" ["_law_box_here", "_law_most", "_law_top", "_law_carts_here"] (spB K 3 phScene3)) (c_parked : Can P w K mg base 1 "_law_parked" ["_law_rail_here", "_law_row_up", "_law_numbers_here"] (spP K 3 phParkX)) (c_carts : Can P w K mg base 1 "_law_carts" ["_law_park"] (spP K 1 phCarts)) (c_strewn : Can P w K mg base 3 "_law_strewn" ["_law_box_here", "_law_some"] (spB K 1 phStrewn)) (c_numbers : Can P w K mg base 3 "_law_numbers" ["_law_box_here", "_law_rail_here", "_law_count_here"] (spB K 2 phNumbers)) (c_due : Can P w K mg base 3 "_law_due" ["_law_rail_here", "_law_park", "_law_goal"] (spP K 3 phDueR)) (c_lists : Can P w K mg base 4 "_law_lists" ["_law_part"] (spP K 1 (phLists 3))) (cw_reversed_pairs : CanXW P w K mg base 4 "reversed_pairs" ["line", "one", "other"] ["other", "one", "line"] [2, 1, 0] (spX K 3 (phRevX cOtherTrains))) (c_same : Can P w K mg base 4 "_law_same" ["_law_found", "_law_due_here"] (spP K 2 (phSame 3))) (c_is_refused : Can P w K mg base 5 "_law_is_refused" ["_law_rail_here", "_law_park", "_law_goal"] (spP K 3 phIsRef)) : CanG P w K mg base (6) "_law_right" ["_law_box_here"] (spB K 0 phRight) := by
  refine D.canBG sc_right rfl fun f cdv A outer s H E hr g0 => ⟨_, (ds_cons (ds_for (di_range1 rfl B.range (da_cons de_int da_nil)) (dg_name 1 sc_right.nd)
      (ds_cons (ds_unp (de_canB c_scene hr (da_cons (dv 0) (da_cons de_int (da_cons de_int (da_cons de_int da_nil))))) (dg_tup (n := 2) (dgs_cons (dg_name 2 sc_right.nd) (dgs_cons (dg_name 3 sc_right.nd) dgs_nil))))
    (ds_cons (ds_parN [4, 5] (da_cons (de_canP c_carts hr (da_cons (dv 3) da_nil)) (da_cons (de_b fit_repr (call_reprD g0 (hu_in hr)) rfl B.repr (by decide +kernel) (da_cons (de_lst (da_cons (dv 2) (da_cons (dv 3) da_nil))) da_nil)) da_nil)) (pgs_cons (pg_name (i := 4) sc_right.nd rfl (Or.inr rfl)) (pgs_cons (pg_name (i := 5) sc_right.nd rfl (Or.inl rfl)) pgs_nil)))
    (ds_cons (ds_set 6 sc_right.nd (de_canP c_parked hr (da_cons (dv 2) (da_cons (de_canB c_strewn hr (da_cons (dv 0) (da_cons (dv 4) da_nil))) (da_cons (de_canB c_numbers hr (da_cons (dv 0) (da_cons (dv 2) (da_cons (de_b fit_len call_len_seq rfl B.len (by decide +kernel) (da_cons (dv 4) da_nil)) da_nil)))) da_nil)))))
    (ds_cons (ds_par 7 8 sc_right.nd (da_cons (de_canP c_due hr (da_cons (dv 2) (da_cons (dv 3) (da_cons (dv 6) da_nil)))) (da_cons (de_canP c_lists hr (da_cons (de_lst (da_cons (dv 2) (da_cons (dv 3) (da_cons (dv 6) da_nil)))) da_nil)) da_nil)))
    (ds_cons (ds_set 9 sc_right.nd (de_lstO (da_cons (de_canX cw_reversed_pairs.can hr (da_cons (dv 2) (da_cons (dv 3) (da_cons (dv 6) da_nil)))) (da_cons (de_kwX cw_reversed_pairs hr (dk_cons (de_ix (dv 8) de_int) (dk_cons (de_ix (dv 8) de_int) (dk_cons (de_ix (dv 8) de_int) dk_nil)))) da_nil))))
    (ds_cons (ds_if (dt_not (dt_val (de_look (de_canV c_same hr (da_cons (de_add (dv 9) (de_lst (da_cons (de_canX cw_reversed_pairs.can hr (da_cons (dv 2) (da_cons (dv 6) (da_cons (dv 3) da_nil)))) da_nil))) (da_cons (de_rep (de_lst (da_cons (dv 7) da_nil)) de_int) da_nil)))))) (ds_single (ds_ret de_bl)) ds_nil)
    (ds_cons (ds_appAt 9 (pv 9))
    (ds_cons (ds_if (dt_not (dt_val (de_canV c_same hr (da_cons (de_lst (da_cons (de_canX cw_reversed_pairs.can hr (da_cons (dv 2) (da_cons (dv 3) (da_cons (dv 6) da_nil)))) (da_cons (de_canX cw_reversed_pairs.can hr (da_cons (dv 2) (da_cons (dv 3) (da_cons (dv 3) da_nil)))) da_nil))) (da_cons (de_lst (da_cons (dv 7) (da_cons (de_lst da_nil) da_nil))) da_nil))))) (ds_single (ds_ret de_bl)) ds_nil)
    (ds_cons (ds_if (dt_ne hr (dv 4) (de_lst da_nil)) (ds_cons (ds_set 10 sc_right.nd (de_ty fit_tuple call_tuple_of rfl B.tuple (by decide +kernel) (da_cons (de_lc sc_right.nd (di_seq (dv 6)) (blkOk_by (own := [("_law_some", 12)]) (by rfl)) (fun _ _ _ _ _ => (dg_name 12 sc_right.nd)) (fun _ _ _ _ _ => dts_nil) (fun _ _ _ _ _ => (de_ty fit_tuple call_tuple_of rfl B.tuple (by decide +kernel) (da_cons (de_lc sc_right.nd (di_seq (dv 12)) (blkOk_by (own := [("_law_cart", 11)]) (by rfl)) (fun _ _ _ _ _ => (dg_name 11 sc_right.nd)) (fun _ _ _ _ _ => dts_nil) (fun _ _ _ _ _ => (de_add (dv 11) (de_ty fit_int1 call_int1 rfl B.int (by decide +kernel) (da_cons (de_eq hr (dv 11) (de_ix (dv 4) (de_neg de_int))) da_nil))))) da_nil)))) da_nil)))
    (ds_single (ds_if (dt_w (dw_or (dt_not (dt_val (de_canP c_is_refused hr (da_cons (dv 2) (da_cons (dv 3) (da_cons (dv 10) da_nil)))))) (dw_or1 (dt_not (dt_val (de_canP c_is_refused hr (da_cons (dv 2) (da_cons (dv 10) (da_cons (dv 3) da_nil))))))))) (ds_single (ds_ret de_bl)) ds_nil))) ds_nil)
    (ds_single (ds_if (dt_ne hr (de_b fit_repr (call_reprD g0 (hu_in hr)) rfl B.repr (by decide +kernel) (da_cons (de_lst (da_cons (dv 2) (da_cons (dv 3) da_nil))) da_nil)) (dv 5)) (ds_single (ds_ret de_bl)) ds_nil))))))))))))
    (ds_single (ds_ret de_bl))), fun p m ds Kt hl h => ?_⟩
  obtain ⟨rfl, hm, hk⟩ := h
  simp only [List.map_cons, List.map_nil]
  rw [st_right]
  walk_at "b"
  refine for_at (fun Γ0 i Γ => ∃ (a b c d e f g h j k l n : Option O) (m' : Nat), m' ≤ m + 1000 * i ∧ Γ = puts Γ0 [(0, some (.box p m')), (1, a), (2, b), (3, c), (4, d), (5, e), (6, f), (7, g), (8, h), (9, j), (10, k), (11, l), (12, n)]) ⟨_, _, _, _, _, _, _, _, _, _, _, _, m, by omega, rfl⟩ ⟨?_, ?_⟩
  · rintro i Γ hi ⟨a1, a2, a3, a4, a5, a6, a7, a8, a9, a10, a11, a12, m1, hm1, rfl⟩
    replace hi : i < 4 := hi
    walk_at "b"
    refine ⟨6, 4, 8, rfl, by decide, by decide, by decide, by decide, by decide, by decide, by omega, fun L S m2 l1 l2 hK h4 hS hc1 hc2 hm2 => ?_⟩
    have hc1 : S.flatten.length ≤ 8 := by omega
    have h5 : L.length ≤ 6 := by omega
    have hLn := ln_line L
    have hSl := hS.len
    have h40 : L.length ≤ 40 := by omega
    have s40 : S.flatten.length ≤ 40 := by omega
    have lz : (sortI S.flatten).length = S.flatten.length := sortI_len _
    walk_at "b"
    refine ⟨_, S, rfl, st_std S, s40, ?_⟩
    walk_at "b"
    have h4' : sizesLe L 1000000 := fun i hi => Int.le_trans (h4 i hi) (by decide)
    refine ⟨repr_scene hS h40 h4' hK s40, ?_⟩
    walk_at "b"
    refine ⟨_, true, sortI S.flatten, rfl, rfl, by omega, by omega, fun ys hy => ?_⟩
    have hyl : ys.length = S.flatten.length := by rw [hy.length_eq, lz]
    have hyp : ys.Perm S.flatten := hy.trans (sortI_perm _)
    walk_at "b"
    rw [List.length_map]
    refine ⟨_, L, _, rfl, hLn, h40, hK, by rw [lz]; exact hc2, by omega, by omega, fun N hf hN => ?_⟩
    walk_at "b"
    have hNs : N.sum = (ys.length : Nat) := by rw [hN, lz, hyl]
    refine ⟨_, L, N, ys, rfl, hLn, hf, h40, hK, by omega, hNs, ?_⟩
    have hS2 : Scn L (parkS L ys N) := scn_park hf hNs (hyp.nodup_iff.mpr hS.nodup) fun x hx => hS.nonneg x (hyp.mem_iff.mp hx)
    have hpp : (parkS L ys N).flatten.Perm S.flatten := (park_all hf hNs).trans hyp
    generalize parkS L ys N = G at hS2 hpp
    have hGl : G.flatten.length = S.flatten.length := hpp.length_eq
    have hso : sortI S.flatten = sortI G.flatten := sortI_congr hpp.symm
    have g40 : G.flatten.length ≤ 40 := by omega
    walk_at "b"
    refine ⟨L, S, G, rfl, hS, hS2, h40, hK, s40, g40, hso, ?_⟩
    walk_at "b"
    have deepS : Deep 3 (.list [lineD L, stdD S, stdD G]) := .list 2 _ (show (3 : Nat) < 100000 by decide) fun x he => by
      rcases List.mem_cons.mp he with e | he
      · rw [e]; exact deep_line h40 hK
      · rcases List.mem_cons.mp he with e | he
        · rw [e]; exact deep_std (by omega) s40
        · rw [List.mem_singleton.mp he]; exact deep_std (by rw [hS2.len]; omega) g40
    have liS : listed (.list [lineD L, stdD S, stdD G]) = .list [lineDL L, stdDL S, stdDL G] := by
      rw [← listed_line, ← listed_std, ← listed_std]
      simp only [listed, listedAll]
    refine ⟨_, rfl, deepS, fun xs e => ?_, fun e => (e _ liS).elim⟩
    rw [liS] at e
    cases e
    walk_at "b"
    refine ⟨_, _, _, L, S, G, rfl, hLn, st_std S, st_std G, h40, hK, s40, g40, fun _ => ⟨hS, hS2, ?_⟩, fun z => (z hso).elim⟩
    walk_at "b"
    refine ⟨_, _, _, L, S, G, rfl, ln_lineL L, st_stdL S, st_stdL G, h40, hK, s40, g40, fun _ => ⟨hS, hS2, ?_⟩, fun z => (z hso).elim⟩
    walk_at "b"
    refine ⟨_, _, _, L, G, S, rfl, hLn, st_std G, st_std S, h40, hK, g40, s40, fun _ => ⟨hS2, hS, ?_⟩, fun z => (z hso.symm).elim⟩
    rw [rev_comm hso]
    simp only [snap, Dl.put, List.map_cons, List.map_nil, Option.map_some, snapO, see, seeAll]
    walk_at "b"
    refine ⟨⟨by decide, by decide, le_size (show (3 : Nat) < 1000 by decide)⟩, ?_⟩
    walk_at "b"
    have dR : Deep 2 (.list (revD L S G)) := deep_rev 0 s40
    refine ⟨.list [.list (revD L S G), .list (revD L S G), .list (revD L S G)], rfl, .list 2 _ (show (3 : Nat) < 100000 by decide) fun x he => by
      rcases List.mem_cons.mp he with e | he
      · rw [e]; exact dR
      · rcases List.mem_cons.mp he with e | he
        · rw [e]; exact dR
        · rw [List.mem_singleton.mp he]; exact dR, ?_⟩
    walk_at "b"
    refine ⟨Int.le_refl _, ?_⟩
    walk_at "b"
    have rl : (revD L S G).length < 100000 := by
      have := rev_len (L := L) (S1 := S) (S2 := G) (o := sortI S.flatten) (sortI S.flatten).length
      rw [lz] at this
      unfold revD
      rw [lz]
      exact Nat.lt_of_le_of_lt this (Nat.lt_of_le_of_lt (Nat.mul_le_mul s40 s40) (by decide))
    refine ⟨Nat.lt_of_lt_of_le rl (big_size (by decide)), ?_⟩
    walk_at "b"
    refine ⟨_, _, _, L, S, G, rfl, hLn, st_std S, st_std G, h40, hK, s40, g40, fun _ => ⟨hS, hS2, ?_⟩, fun z => (z hso).elim⟩
    walk_at "b"
    refine ⟨_, _, _, L, S, S, rfl, hLn, st_std S, st_std S, h40, hK, s40, s40, fun _ => ⟨hS, hS, ?_⟩, fun z => (z rfl).elim⟩
    rw [rev_self]
    walk_at "b"
    refine ⟨_, rfl, .list 2 _ (show (2 : Nat) < 100000 by decide) fun x he => by
      rcases List.mem_cons.mp he with e | he
      · rw [e]; exact dR
      · rw [List.mem_singleton.mp he]; exact .list 1 _ (by decide) fun _ h => (List.not_mem_nil h).elim, ?_⟩
    walk_at "b"
    refine ⟨⟨shaped_ints _, shaped_nil⟩, ?_⟩
    rw [eqv_nil]
    walk_at "b"
    refine ⟨fun q => ?_, fun q => ?_⟩
    · have q : sortI S.flatten ≠ [] := by simpa using q
      have qp : 0 < (sortI S.flatten).length := List.length_pos_iff.mpr q
      have hzl := atI_last PyData.none (l := (sortI S.flatten).map PyData.int) (by rw [List.length_map]; exact qp)
      rw [List.length_map, getD_map_int (by omega)] at hzl
      have hzm : (sortI S.flatten).getD ((sortI S.flatten).length - 1) 0 ∈ S.flatten := (sortI_perm _).mem_iff.mp (getD_mem2 0 (by omega))
      have hzx : ∀ x ∈ S.flatten, x ≤ (sortI S.flatten).getD ((sortI S.flatten).length - 1) 0 := fun x hx => by
        obtain ⟨k, hk, rfl⟩ := List.getElem_of_mem ((sortI_perm _).mem_iff.mpr hx)
        by_cases e : k = (sortI S.flatten).length - 1
        · rw [List.getD_eq_getElem?_getD, List.getElem?_eq_getElem (by omega)]
          show _ ≤ (sortI S.flatten)[(sortI S.flatten).length - 1]
          subst e
          exact Int.le_refl _
        · have := List.pairwise_iff_getElem.mp (sortI_sorted S.flatten) k ((sortI S.flatten).length - 1) hk (by omega) (by omega)
          rw [List.getD_eq_getElem?_getD, List.getElem?_eq_getElem (by omega)]
          exact this
      have hodd := odd_ne hpp hzm hzx
      generalize (sortI S.flatten).getD ((sortI S.flatten).length - 1) 0 = z at hzl hodd
      have hol : (oddT z G).flatten.length ≤ 40 := by rw [odd_flat, List.length_map]; exact g40
      walk_at "b"
      refine lcx_at (fun Γ0 n acc Γ => acc = (oddT z (G.take n)).map (fun l => PyData.tuple (l.map .int)) ∧ ∃ a : Option O, Γ = puts Γ0 [(11, a)]) ⟨rfl, a11, rfl⟩ ⟨?_, ?_⟩
      · rintro n acc Γ hn ⟨rfl, b11, rfl⟩
        rw [List.length_map] at hn
        rw [show (fun i => (G.map fun l => PyData.tuple (l.map PyData.int)).getD i .none) n = .tuple ((G.getD n []).map PyData.int) from std_get hn]
        have hrl : (G.getD n []).length ≤ G.flatten.length := by
          rw [List.getD_eq_getElem?_getD, List.getElem?_eq_getElem hn]
          exact (List.sublist_flatten_of_mem (List.getElem_mem hn)).length_le
        have eo : (oddT z (G.take (n + 1))).map (fun l => PyData.tuple (l.map PyData.int)) = (oddT z (G.take n)).map (fun l => PyData.tuple (l.map PyData.int)) ++ [.tuple (((G.getD n []).map fun c => if c = z then c + 1 else c).map PyData.int)] := by
          unfold oddT
          rw [take_at [] hn, List.map_append, List.map_append]
          rfl
        have hsz : ((oddT z (G.take n)).map (fun l => PyData.tuple (l.map PyData.int))).length < sizeLine := by
          unfold oddT
          exact lt_size (by rw [List.length_map, List.length_map, List.length_take, hS2.len]; omega)
        generalize G.getD n [] = l at hrl eo
        walk_at "b"
        refine lc_at (fun k => ((l.take k).map fun c => if c = z then c + 1 else c).map PyData.int) rfl ⟨?_, ?_⟩
        · rintro k acc Γ hk ⟨rfl, rfl⟩
          rw [List.length_map] at hk
          rw [show (fun i => (l.map PyData.int).getD i .none) k = .int (l.getD k 0) from getD_map_int hk]
          walk_at "b"
          rw [hzl]
          walk_at "b"
          refine ⟨lt_size (by rw [List.length_map, List.length_map, List.length_take]; omega), ?_, rfl⟩
          rw [take_at 0 hk, List.map_append, List.map_append]
          refine congrArg (_ ++ ·) ?_
          show [PyData.int _] = [PyData.int (if l.getD k 0 = z then l.getD k 0 + 1 else l.getD k 0)]
          by_cases e : l.getD k 0 = z
          · rw [decide_eq_true e, if_pos e]
            rfl
          · rw [decide_eq_false e, if_neg e]
            show [PyData.int (l.getD k 0 + 0)] = _
            rw [Int.add_zero]
        · rintro acc Γ ⟨rfl, rfl⟩
          have e2 : l.take (l.map PyData.int).length = l := by rw [List.length_map, List.take_length]
          rw [e2]
          walk_at "b"
          exact ⟨hsz, eo.symm, _, rfl⟩
      · rintro acc Γ ⟨rfl, b11, rfl⟩
        have e2 : G.take (G.map fun l => PyData.tuple (l.map PyData.int)).length = G := by rw [List.length_map, List.take_length]
        rw [e2]
        walk_at "b"
        refine ⟨L, S, oddT z G, rfl, h40, hK, s40, hol, hodd, ?_⟩
        walk_at "b"
        refine ⟨L, oddT z G, S, rfl, h40, hK, hol, s40, fun e => hodd e.symm, ?_⟩
        walk_at "b"
        refine ⟨repr_scene hS h40 h4' hK s40, ?_⟩
        walk_at "b"
        refine ⟨⟨shown_scene hS h4' hK, shown_scene hS h4' hK⟩, ?_⟩
        rw [decide_eq_true rfl]
        walk_at "b"
        exact ⟨_, _, _, _, _, _, _, _, _, _, _, _, _, by omega, rfl⟩
    · walk_at "b"
      refine ⟨repr_scene hS h40 h4' hK s40, ?_⟩
      walk_at "b"
      refine ⟨⟨shown_scene hS h4' hK, shown_scene hS h4' hK⟩, ?_⟩
      rw [decide_eq_true rfl]
      walk_at "b"
      exact ⟨_, _, _, _, _, _, _, _, _, _, _, _, _, by omega, rfl⟩
  · rintro Γ ⟨a1, a2, a3, a4, a5, a6, a7, a8, a9, a10, a11, a12, m1, hm1, rfl⟩
    replace hm1 : m1 ≤ m + 1000 * 4 := hm1
    walk_at "b"
    exact ⟨m1, rfl, hk m1 (by omega)⟩
end
end Kx
end
section
set_option maxHeartbeats 4000000
namespace Kx
open PySem PySem.Spec PyProof.Rows L2 Dl
local macro_rules | `(tactic| walk_at "dd") => `(tactic| simp only [dC, dVar, dBin, dTest, onB, dNotT, dAndT, dOrT, dAndV, dOrV, dNotV, dIf, dNil, dCons, dCB, dSeqI, dRng1, dRng2, dEnI, dZpI, escs, esc, fix1, fixN, mov, vw, vk, see, seeAll, dNext, dSeq, dBreak, dCont, dExpr, dRet, dRetN, dIfS, dSet, dMulti, putN, gdName, gdNil, gdCons, gdTup, dFor, dWhile, dCallP, dCallV, vws, isScal, onBox, dCallB, dTup, dLst, dLstO, dIx, onI2, dNegI, dAdd2, addD, dEq2, eqK, dIn2, dLen, onI1, onI12, dInt1, onInts, dToL, dToT, onBs, dMeth, isOwn, rhoApp, rhoPopAt, dStore, dRep2, dNoP, dPart, dSlice, wipeG, dYes, dLc, dIsi, dIsNT, dIsN, nonOf, dAug, dUnp, dKwP, pick, dNewD, dUpd, onPairs, dSortD, onIntsA, onOlAt, dAppT, dCallS, dLenS, dIxS, dLc2, lcTurn, List.getD_cons_zero, List.getD_cons_succ, Nat.zero_le, zl1, zl2, zl3, zl4, zl5, zl6, zl7, zl8, zl9, zl10, zl11, ls1, ls2, ls3, ls4, eq_self, Nat.reduceAdd, Nat.reduceEqDiff, itemsOf_list, itemsOf_tuple, Dl.get, Dl.put, List.length_cons, List.length_nil, List.map_cons, List.map_nil, id, true_and, and_true, true_implies, forall_const, Bool.not_true, Bool.not_false, reduceCtorEq, false_implies, Nat.zero_add, ite_true, ite_false, Bool.true_eq_false, Bool.false_eq_true])
local macro_rules | `(tactic| walk_at "w") => `(tactic| conv => whnf)
local macro_rules | `(tactic| walk_at "cb") => `(tactic| ((conv => whnf); refine ⟨rfl, rfl, Nat.zero_lt_succ _, ?_⟩; (conv => whnf)))
local macro_rules | `(tactic| walk_at "cp") => `(tactic| ((conv => whnf); refine ⟨rfl, ?_⟩; (conv => whnf)))
local macro_rules | `(tactic| walk_at "a") => `(tactic| ((conv => whnf); repeat (first | (refine ⟨leS rfl, ?_⟩; (conv => whnf)) | (refine ⟨trivial, ?_⟩; (conv => whnf)) | (refine ⟨rfl, ?_⟩; (conv => whnf)) | (refine ⟨Nat.zero_lt_succ _, ?_⟩; (conv => whnf)) | (refine ⟨(show (2 : Nat) < _ from ltN rfl), ?_⟩; (conv => whnf)) | (refine ⟨(show Dl.inR _ from (by unfold Dl.inR; omega)), ?_⟩; (conv => whnf)) | (refine ⟨fun _ => ?_, fun z => Bool.noConfusion (show true = false from z)⟩; (conv => whnf)) | (refine ⟨fun z => Bool.noConfusion (show false = true from z), fun _ => ?_⟩; (conv => whnf))); try (first | refine norm_ex (by dsimp only [Dl.put, Dl.wipeG, Dl.putN, puts]) ?_ | refine norm_lc (by dsimp only [Dl.put, Dl.wipeG, Dl.putN, puts]) ?_)))
local macro_rules | `(tactic| walk_at "b") => `(tactic| ((try dsimp only [puts, Dl.put, Dl.putN, Dl.wipeG]); walk_at "a"))
local macro_rules | `(tactic| walk_at "d") => `(tactic| ((walk_at "b"); dsimp only))
section
variable {P : Program} {w : World} {K : PySem.W.Frag} {mg : Str → Option Value} {base : Heap}
theorem st_law (a0 : O) : startG ["_law_script", "_law_k"] [a0] = [some a0, none] := rfl
theorem ok_law {f : Addr} {fd : FuncData} (D : Fun K "law" "law" s_law f fd) (B : Blt mg) (c_right : CanG P w K mg base 6 "_law_right" ["_law_box_here"] (spB K 0 phRight)) (c_box : Can P w K mg base 2 "_law_box" ["_law_script", "_law_k"] (spS K 1 phBox)) : FnG P w K mg base (7) f fd ["_law_script"] (spS K 0 phLaw) := by
  refine fnSG D sc_law rfl fun cdv A outer s H E hr g0 => ⟨_, (ds_single (ds_ret (de_b fit_all (cr_all rfl) rfl B.all (by decide +kernel) (da_cons (de_lc sc_law.nd (di_range1 rfl B.range (da_cons (de_add de_int (de_b fit_min2 (call_min2 rfl) rfl B.min (by decide +kernel) (da_cons de_int (da_cons (de_b fit_lenS call_len_seq rfl B.len (by decide +kernel) (da_cons (dv 0) da_nil)) da_nil)))) da_nil)) (blkOk_by (own := [("_law_k", 1)]) (by rfl)) (fun _ _ _ _ _ => (dg_name 1 sc_law.nd)) (fun _ _ _ _ _ => dts_nil) (fun _ _ _ _ _ => (de_canBGN c_right hr g0 (da_cons (de_canSK c_box hr (da_cons (dv 0) (da_cons (dv 1) da_nil))) da_nil)))) da_nil)))), fun ns ds Kt hl h => ?_⟩
  obtain ⟨rfl, h63, hk⟩ := h
  simp only [List.map_cons, List.map_nil]
  rw [st_law]
  walk_at "a"
  refine ⟨0, ns, rfl, rfl, ?_⟩
  walk_at "w"
  refine ⟨by unfold Dl.inR; split <;> omega, ?_⟩
  refine norm_lc (by dsimp only [Dl.put, Dl.wipeG, Dl.putN, puts]) ?_
  refine lc_at (fun n => List.replicate n (PyData.bool true)) rfl ⟨?_, ?_⟩
  · rintro i acc Γ hi ⟨rfl, rfl⟩
    have hi2 : i < 4 := by first | exact Nat.lt_of_lt_of_le hi (by decide) | (split at hi <;> omega)
    walk_at "a"
    refine ⟨0, _, ns, rfl, rfl, ?_⟩
    walk_at "a"
    refine ⟨_, rfl, by omega, by omega, fun a b a0 b0 b1 => ?_⟩
    walk_at "a"
    refine ⟨⟨a, b, 0, rfl, a0, b0, b1, by decide, by decide⟩, ?_⟩
    walk_at "a"
    refine fun m' hm' => ?_
    walk_at "a"
    exact ⟨lt_size (by rw [List.length_replicate]; omega), rep_snoc _ _, rfl⟩
  · rintro acc Γ ⟨rfl, rfl⟩
    walk_at "a"
    refine ⟨List.replicate _ true, by rw [List.map_replicate], ?_⟩
    walk_at "w"
    rw [all_rep]
    exact hk
end
end Kx
end
set_option maxHeartbeats 4000000
namespace Kx
open PySem PySem.Spec PyProof.Rows L2 Dl
abbrev loose : List Str := "OtherTrains" :: "NoTrain" :: "Barred" :: "Crossed" :: "own_pair" :: "trains" :: "check_trains" :: "ranks_in" :: "reversed_pairs" :: "_law_cell_at" :: "_law_box" :: "_law_take" :: "_law_of" :: "_law_same" :: "_law_lists" :: "_law_strewn" :: "_law_rail" :: "_law_total" :: "_law_ids" :: "_law_numbers" :: "_law_parked" :: "_law_count" :: "_law_scene" :: "_law_carts" :: "_law_spot" :: "_law_ahead" :: "_law_due" :: "_law_is_refused" :: "_law_right" :: []
def d_own_pair : He.DefD := ⟨("own_pair", none), "own_pair", "own_pair", defArgs s_own_pair, defBody s_own_pair, defScope s_own_pair, [], []⟩
def d_trains : He.DefD := ⟨("trains", none), "trains", "trains", defArgs s_trains, defBody s_trains, defScope s_trains, [], []⟩
def d_check_trains : He.DefD := ⟨("check_trains", none), "check_trains", "check_trains", defArgs s_check_trains, defBody s_check_trains, defScope s_check_trains, [], []⟩
def d_ranks_in : He.DefD := ⟨("ranks_in", none), "ranks_in", "ranks_in", defArgs s_ranks_in, defBody s_ranks_in, defScope s_ranks_in, [], []⟩
def d_reversed_pairs : He.DefD := ⟨("reversed_pairs", none), "reversed_pairs", "reversed_pairs", defArgs s_reversed_pairs, defBody s_reversed_pairs, defScope s_reversed_pairs, [], []⟩
def d_cell_at : He.DefD := ⟨("_law_cell_at", none), "_law_cell_at", "_law_cell_at", defArgs s_cell_at, defBody s_cell_at, defScope s_cell_at, [], []⟩
def d_box : He.DefD := ⟨("_law_box", none), "_law_box", "_law_box", defArgs s_box, defBody s_box, defScope s_box, [], []⟩
def d_take : He.DefD := ⟨("_law_take", none), "_law_take", "_law_take", defArgs s_take, defBody s_take, defScope s_take, [], []⟩
def d_of : He.DefD := ⟨("_law_of", none), "_law_of", "_law_of", defArgs s_of, defBody s_of, defScope s_of, [], []⟩
def d_same : He.DefD := ⟨("_law_same", none), "_law_same", "_law_same", defArgs s_same, defBody s_same, defScope s_same, [], []⟩
def d_lists : He.DefD := ⟨("_law_lists", none), "_law_lists", "_law_lists", defArgs s_lists, defBody s_lists, defScope s_lists, [], []⟩
def d_strewn : He.DefD := ⟨("_law_strewn", none), "_law_strewn", "_law_strewn", defArgs s_strewn, defBody s_strewn, defScope s_strewn, [], []⟩
def d_rail : He.DefD := ⟨("_law_rail", none), "_law_rail", "_law_rail", defArgs s_rail, defBody s_rail, defScope s_rail, [], []⟩
def d_total : He.DefD := ⟨("_law_total", none), "_law_total", "_law_total", defArgs s_total, defBody s_total, defScope s_total, [], []⟩
def d_ids : He.DefD := ⟨("_law_ids", none), "_law_ids", "_law_ids", defArgs s_ids, defBody s_ids, defScope s_ids, [], []⟩
def d_numbers : He.DefD := ⟨("_law_numbers", none), "_law_numbers", "_law_numbers", defArgs s_numbers, defBody s_numbers, defScope s_numbers, [], []⟩
def d_parked : He.DefD := ⟨("_law_parked", none), "_law_parked", "_law_parked", defArgs s_parked, defBody s_parked, defScope s_parked, [], []⟩
def d_count : He.DefD := ⟨("_law_count", none), "_law_count", "_law_count", defArgs s_count, defBody s_count, defScope s_count, [], []⟩
def d_scene : He.DefD := ⟨("_law_scene", none), "_law_scene", "_law_scene", defArgs s_scene, defBody s_scene, defScope s_scene, [], []⟩
def d_carts : He.DefD := ⟨("_law_carts", none), "_law_carts", "_law_carts", defArgs s_carts, defBody s_carts, defScope s_carts, [], []⟩
def d_spot : He.DefD := ⟨("_law_spot", none), "_law_spot", "_law_spot", defArgs s_spot, defBody s_spot, defScope s_spot, [], []⟩
def d_ahead : He.DefD := ⟨("_law_ahead", none), "_law_ahead", "_law_ahead", defArgs s_ahead, defBody s_ahead, defScope s_ahead, [], []⟩
def d_due : He.DefD := ⟨("_law_due", none), "_law_due", "_law_due", defArgs s_due, defBody s_due, defScope s_due, [], []⟩
def d_is_refused : He.DefD := ⟨("_law_is_refused", none), "_law_is_refused", "_law_is_refused", defArgs s_is_refused, defBody s_is_refused, defScope s_is_refused, [], []⟩
def d_right : He.DefD := ⟨("_law_right", none), "_law_right", "_law_right", defArgs s_right, defBody s_right, defScope s_right, [], []⟩
def d_law : He.DefD := ⟨("law", none), "law", "law", defArgs s_law, defBody s_law, defScope s_law, [], []⟩
def fn : List He.DefD := [d_own_pair, d_trains, d_check_trains, d_ranks_in, d_reversed_pairs, d_cell_at, d_box, d_take, d_of, d_same, d_lists, d_strewn, d_rail, d_total, d_ids, d_numbers, d_parked, d_count, d_scene, d_carts, d_spot, d_ahead, d_due, d_is_refused, d_right, d_law]
def fa : List He.Fa := [.glo "own_pair", .glo "trains", .glo "check_trains", .glo "ranks_in", .glo "reversed_pairs", .glo "_law_cell_at", .glo "_law_box", .glo "_law_take", .glo "_law_of", .glo "_law_same", .glo "_law_lists", .glo "_law_strewn", .glo "_law_rail", .glo "_law_total", .glo "_law_ids", .glo "_law_numbers", .glo "_law_parked", .glo "_law_count", .glo "_law_scene", .glo "_law_carts", .glo "_law_spot", .glo "_law_ahead", .glo "_law_due", .glo "_law_is_refused", .glo "_law_right", .glo "law", .glo "OtherTrains", .glo "Barred", .glo "Crossed", .glo "NoTrain", .free "len", .free "abs", .free "sum", .free "sorted", .free "all", .free "any", .free "list", .free "tuple", .free "int", .free "min", .free "max", .free "range", .free "zip", .free "enumerate", .free "isinstance", .free "bool", .free "str", .free "repr", .free "set", .free "LookupError", .free "RuntimeError", .free "ValueError", .free "OverflowError", .free "reversed"]
def xsB (K : PySem.W.Frag) : Bool := x0B K (He.ga K "OtherTrains") "ValueError.__new__" (bmOf "ValueError") && (kitB K (.ref (He.ga K "OtherTrains")) (.ref (He.ga K "OtherTrains")) true && (kitB K (.ref (He.ga K "OtherTrains")) (.type "ValueError") true && (kitB K (.ref (He.ga K "OtherTrains")) (.ref (He.ga K "Crossed")) false && (exmB K (.ref (He.ga K "OtherTrains")) [(.ref (He.ga K "Barred")), (.ref (He.ga K "Crossed")), (.ref (He.ga K "NoTrain")), (.ref (He.ga K "OtherTrains"))] true && (ecB K (He.ga K "OtherTrains") && ((tabL K).isEmpty))))))
abbrev Rw : PySem.W.OpenRow := PySem.W.OpenLaw.row PySem.Challenge.rw_passyards_k23_reversed_pairs
abbrev hk : PySem.W.Hook := hookX 5 fa fn xsB
def ob (s : PySem.W.SharedT) : AlX := obsX 5 fa fn xsB (HandSHeadRun.getT s)
theorem ob_eq (s : PySem.W.SharedT) : ob s = hk.obs s.abs := obsX_eq (HandSHeadRun.getT_eq s)
theorem run (w : World) : HandSHeadRun.RunEq Rw (PySem.W.view Rw.prog [34]) hk ob 3000 Kx.loose w := by
  intro os
  kernel_rfl
theorem no_tabs {K : PySem.W.Frag} (cx : xsB K = true) : tabL K = [] := by
  unfold xsB at cx
  obtain ⟨x_0, cx⟩ := bothB cx
  obtain ⟨x_1, cx⟩ := bothB cx
  obtain ⟨x_2, cx⟩ := bothB cx
  obtain ⟨x_3, cx⟩ := bothB cx
  obtain ⟨x_4, cx⟩ := bothB cx
  obtain ⟨x_5, cx⟩ := bothB cx
  have x_6 := cx
  exact List.isEmpty_iff.mp x_6
theorem facts {P : Program} {w : World} {K : PySem.W.Frag} {h : Heap} {mg : Str → Option Value} {f : Addr} (X : K.In h) (G : h.Ns mainGlobals mg) (hfa : mg ("law" : Str) = some (.ref f)) (c : He.SaysD fa fn K) (cx : xsB K = true) :
    ∃ fd : FuncData, (∀ (s : Shared) (v : Value), BindsTo s fd ⟨[v], []⟩ [("_law_script", v)]) ∧ ∀ base : Heap, K.In base → base.Ns mainGlobals mg → FnG P w K mg base 7 f fd ["_law_script"] (spS K 0 phLaw) := by
  have D_own_pair : At K mg "own_pair" s_own_pair ["pair"] := by
    obtain ⟨fd, F⟩ := c.def_ 0 (d := d_own_pair) rfl
    have F1 : Fun K "own_pair" "own_pair" s_own_pair _ fd := toFun F
    exact ⟨_, fd, F1, He.glo_ok X G (c.fact 0 (f := .glo "own_pair") rfl), F1.binds fun _ _ _ _ _ _ us hl => match us, hl with | [_], _ => rfl⟩
  have D_trains : At K mg "trains" s_trains ["standing"] := by
    obtain ⟨fd, F⟩ := c.def_ 1 (d := d_trains) rfl
    have F1 : Fun K "trains" "trains" s_trains _ fd := toFun F
    exact ⟨_, fd, F1, He.glo_ok X G (c.fact 1 (f := .glo "trains") rfl), F1.binds fun _ _ _ _ _ _ us hl => match us, hl with | [_], _ => rfl⟩
  have D_check_trains : At K mg "check_trains" s_check_trains ["one", "other"] := by
    obtain ⟨fd, F⟩ := c.def_ 2 (d := d_check_trains) rfl
    have F1 : Fun K "check_trains" "check_trains" s_check_trains _ fd := toFun F
    exact ⟨_, fd, F1, He.glo_ok X G (c.fact 2 (f := .glo "check_trains") rfl), F1.binds fun _ _ _ _ _ _ us hl => match us, hl with | [_, _], _ => rfl⟩
  have D_ranks_in : At K mg "ranks_in" s_ranks_in ["line", "standing"] := by
    obtain ⟨fd, F⟩ := c.def_ 3 (d := d_ranks_in) rfl
    have F1 : Fun K "ranks_in" "ranks_in" s_ranks_in _ fd := toFun F
    exact ⟨_, fd, F1, He.glo_ok X G (c.fact 3 (f := .glo "ranks_in") rfl), F1.binds fun _ _ _ _ _ _ us hl => match us, hl with | [_, _], _ => rfl⟩
  have D_reversed_pairs : At K mg "reversed_pairs" s_reversed_pairs ["line", "one", "other"] := by
    obtain ⟨fd, F⟩ := c.def_ 4 (d := d_reversed_pairs) rfl
    have F1 : Fun K "reversed_pairs" "reversed_pairs" s_reversed_pairs _ fd := toFun F
    exact ⟨_, fd, F1, He.glo_ok X G (c.fact 4 (f := .glo "reversed_pairs") rfl), F1.binds fun _ _ _ _ _ _ us hl => match us, hl with | [_, _, _], _ => rfl⟩
  have D_cell_at : At K mg "_law_cell_at" s_cell_at ["_law_script", "_law_k"] := by
    obtain ⟨fd, F⟩ := c.def_ 5 (d := d_cell_at) rfl
    have F1 : Fun K "_law_cell_at" "_law_cell_at" s_cell_at _ fd := toFun F
    exact ⟨_, fd, F1, He.glo_ok X G (c.fact 5 (f := .glo "_law_cell_at") rfl), F1.binds fun _ _ _ _ _ _ us hl => match us, hl with | [_, _], _ => rfl⟩
  have D_box : At K mg "_law_box" s_box ["_law_script", "_law_k"] := by
    obtain ⟨fd, F⟩ := c.def_ 6 (d := d_box) rfl
    have F1 : Fun K "_law_box" "_law_box" s_box _ fd := toFun F
    exact ⟨_, fd, F1, He.glo_ok X G (c.fact 6 (f := .glo "_law_box") rfl), F1.binds fun _ _ _ _ _ _ us hl => match us, hl with | [_, _], _ => rfl⟩
  have D_take : At K mg "_law_take" s_take ["_law_box_here", "_law_span"] := by
    obtain ⟨fd, F⟩ := c.def_ 7 (d := d_take) rfl
    have F1 : Fun K "_law_take" "_law_take" s_take _ fd := toFun F
    exact ⟨_, fd, F1, He.glo_ok X G (c.fact 7 (f := .glo "_law_take") rfl), F1.binds fun _ _ _ _ _ _ us hl => match us, hl with | [_, _], _ => rfl⟩
  have D_of : At K mg "_law_of" s_of ["_law_box_here", "_law_some"] := by
    obtain ⟨fd, F⟩ := c.def_ 8 (d := d_of) rfl
    have F1 : Fun K "_law_of" "_law_of" s_of _ fd := toFun F
    exact ⟨_, fd, F1, He.glo_ok X G (c.fact 8 (f := .glo "_law_of") rfl), F1.binds fun _ _ _ _ _ _ us hl => match us, hl with | [_, _], _ => rfl⟩
  have D_same : At K mg "_law_same" s_same ["_law_found", "_law_due_here"] := by
    obtain ⟨fd, F⟩ := c.def_ 9 (d := d_same) rfl
    have F1 : Fun K "_law_same" "_law_same" s_same _ fd := toFun F
    exact ⟨_, fd, F1, He.glo_ok X G (c.fact 9 (f := .glo "_law_same") rfl), F1.binds fun _ _ _ _ _ _ us hl => match us, hl with | [_, _], _ => rfl⟩
  have D_lists : At K mg "_law_lists" s_lists ["_law_part"] := by
    obtain ⟨fd, F⟩ := c.def_ 10 (d := d_lists) rfl
    have F1 : Fun K "_law_lists" "_law_lists" s_lists _ fd := toFun F
    exact ⟨_, fd, F1, He.glo_ok X G (c.fact 10 (f := .glo "_law_lists") rfl), F1.binds fun _ _ _ _ _ _ us hl => match us, hl with | [_], _ => rfl⟩
  have D_strewn : At K mg "_law_strewn" s_strewn ["_law_box_here", "_law_some"] := by
    obtain ⟨fd, F⟩ := c.def_ 11 (d := d_strewn) rfl
    have F1 : Fun K "_law_strewn" "_law_strewn" s_strewn _ fd := toFun F
    exact ⟨_, fd, F1, He.glo_ok X G (c.fact 11 (f := .glo "_law_strewn") rfl), F1.binds fun _ _ _ _ _ _ us hl => match us, hl with | [_, _], _ => rfl⟩
  have D_rail : At K mg "_law_rail" s_rail ["_law_box_here", "_law_most", "_law_top"] := by
    obtain ⟨fd, F⟩ := c.def_ 12 (d := d_rail) rfl
    have F1 : Fun K "_law_rail" "_law_rail" s_rail _ fd := toFun F
    exact ⟨_, fd, F1, He.glo_ok X G (c.fact 12 (f := .glo "_law_rail") rfl), F1.binds fun _ _ _ _ _ _ us hl => match us, hl with | [_, _, _], _ => rfl⟩
  have D_total : At K mg "_law_total" s_total ["_law_rail_here"] := by
    obtain ⟨fd, F⟩ := c.def_ 13 (d := d_total) rfl
    have F1 : Fun K "_law_total" "_law_total" s_total _ fd := toFun F
    exact ⟨_, fd, F1, He.glo_ok X G (c.fact 13 (f := .glo "_law_total") rfl), F1.binds fun _ _ _ _ _ _ us hl => match us, hl with | [_], _ => rfl⟩
  have D_ids : At K mg "_law_ids" s_ids ["_law_box_here", "_law_count_here"] := by
    obtain ⟨fd, F⟩ := c.def_ 14 (d := d_ids) rfl
    have F1 : Fun K "_law_ids" "_law_ids" s_ids _ fd := toFun F
    exact ⟨_, fd, F1, He.glo_ok X G (c.fact 14 (f := .glo "_law_ids") rfl), F1.binds fun _ _ _ _ _ _ us hl => match us, hl with | [_, _], _ => rfl⟩
  have D_numbers : At K mg "_law_numbers" s_numbers ["_law_box_here", "_law_rail_here", "_law_count_here"] := by
    obtain ⟨fd, F⟩ := c.def_ 15 (d := d_numbers) rfl
    have F1 : Fun K "_law_numbers" "_law_numbers" s_numbers _ fd := toFun F
    exact ⟨_, fd, F1, He.glo_ok X G (c.fact 15 (f := .glo "_law_numbers") rfl), F1.binds fun _ _ _ _ _ _ us hl => match us, hl with | [_, _, _], _ => rfl⟩
  have D_parked : At K mg "_law_parked" s_parked ["_law_rail_here", "_law_row_up", "_law_numbers_here"] := by
    obtain ⟨fd, F⟩ := c.def_ 16 (d := d_parked) rfl
    have F1 : Fun K "_law_parked" "_law_parked" s_parked _ fd := toFun F
    exact ⟨_, fd, F1, He.glo_ok X G (c.fact 16 (f := .glo "_law_parked") rfl), F1.binds fun _ _ _ _ _ _ us hl => match us, hl with | [_, _, _], _ => rfl⟩
  have D_count : At K mg "_law_count" s_count ["_law_box_here", "_law_rail_here", "_law_most"] := by
    obtain ⟨fd, F⟩ := c.def_ 17 (d := d_count) rfl
    have F1 : Fun K "_law_count" "_law_count" s_count _ fd := toFun F
    exact ⟨_, fd, F1, He.glo_ok X G (c.fact 17 (f := .glo "_law_count") rfl), F1.binds fun _ _ _ _ _ _ us hl => match us, hl with | [_, _, _], _ => rfl⟩
  have D_scene : At K mg "_law_scene" s_scene ["_law_box_here", "_law_most", "_law_top", "_law_carts_here"] := by
    obtain ⟨fd, F⟩ := c.def_ 18 (d := d_scene) rfl
    have F1 : Fun K "_law_scene" "_law_scene" s_scene _ fd := toFun F
    exact ⟨_, fd, F1, He.glo_ok X G (c.fact 18 (f := .glo "_law_scene") rfl), F1.binds fun _ _ _ _ _ _ us hl => match us, hl with | [_, _, _, _], _ => rfl⟩
  have D_carts : At K mg "_law_carts" s_carts ["_law_park"] := by
    obtain ⟨fd, F⟩ := c.def_ 19 (d := d_carts) rfl
    have F1 : Fun K "_law_carts" "_law_carts" s_carts _ fd := toFun F
    exact ⟨_, fd, F1, He.glo_ok X G (c.fact 19 (f := .glo "_law_carts") rfl), F1.binds fun _ _ _ _ _ _ us hl => match us, hl with | [_], _ => rfl⟩
  have D_spot : At K mg "_law_spot" s_spot ["_law_park", "_law_cart"] := by
    obtain ⟨fd, F⟩ := c.def_ 20 (d := d_spot) rfl
    have F1 : Fun K "_law_spot" "_law_spot" s_spot _ fd := toFun F
    exact ⟨_, fd, F1, He.glo_ok X G (c.fact 20 (f := .glo "_law_spot") rfl), F1.binds fun _ _ _ _ _ _ us hl => match us, hl with | [_, _], _ => rfl⟩
  have D_ahead : At K mg "_law_ahead" s_ahead ["_law_rail_here", "_law_park", "_law_first", "_law_second"] := by
    obtain ⟨fd, F⟩ := c.def_ 21 (d := d_ahead) rfl
    have F1 : Fun K "_law_ahead" "_law_ahead" s_ahead _ fd := toFun F
    exact ⟨_, fd, F1, He.glo_ok X G (c.fact 21 (f := .glo "_law_ahead") rfl), F1.binds fun _ _ _ _ _ _ us hl => match us, hl with | [_, _, _, _], _ => rfl⟩
  have D_due : At K mg "_law_due" s_due ["_law_rail_here", "_law_park", "_law_goal"] := by
    obtain ⟨fd, F⟩ := c.def_ 22 (d := d_due) rfl
    have F1 : Fun K "_law_due" "_law_due" s_due _ fd := toFun F
    exact ⟨_, fd, F1, He.glo_ok X G (c.fact 22 (f := .glo "_law_due") rfl), F1.binds fun _ _ _ _ _ _ us hl => match us, hl with | [_, _, _], _ => rfl⟩
  have D_is_refused : At K mg "_law_is_refused" s_is_refused ["_law_rail_here", "_law_park", "_law_goal"] := by
    obtain ⟨fd, F⟩ := c.def_ 23 (d := d_is_refused) rfl
    have F1 : Fun K "_law_is_refused" "_law_is_refused" s_is_refused _ fd := toFun F
    exact ⟨_, fd, F1, He.glo_ok X G (c.fact 23 (f := .glo "_law_is_refused") rfl), F1.binds fun _ _ _ _ _ _ us hl => match us, hl with | [_, _, _], _ => rfl⟩
  have D_right : At K mg "_law_right" s_right ["_law_box_here"] := by
    obtain ⟨fd, F⟩ := c.def_ 24 (d := d_right) rfl
    have F1 : Fun K "_law_right" "_law_right" s_right _ fd := toFun F
    exact ⟨_, fd, F1, He.glo_ok X G (c.fact 24 (f := .glo "_law_right") rfl), F1.binds fun _ _ _ _ _ _ us hl => match us, hl with | [_], _ => rfl⟩
  obtain ⟨fd, F⟩ := c.def_ 25 (d := d_law) rfl
  have e := hfa.symm.trans (He.glo_ok X G (c.fact 25 (f := .glo "law") rfl))
  cases e
  have bl := FunD.bindsA (ps := ["_law_script"]) F fun _ _ _ _ _ _ us hl => match us, hl with | [_], _ => rfl
  have D_law : Fun K "law" "law" s_law _ fd := toFun F
  have m_OtherTrains := He.glo_ok X G (c.fact 26 (f := .glo "OtherTrains") rfl)
  have m_Barred := He.glo_ok X G (c.fact 27 (f := .glo "Barred") rfl)
  have m_Crossed := He.glo_ok X G (c.fact 28 (f := .glo "Crossed") rfl)
  have m_NoTrain := He.glo_ok X G (c.fact 29 (f := .glo "NoTrain") rfl)
  have B : Blt mg := ⟨He.free_ok X G (c.fact 30 (f := .free "len") rfl), He.free_ok X G (c.fact 31 (f := .free "abs") rfl), He.free_ok X G (c.fact 32 (f := .free "sum") rfl), He.free_ok X G (c.fact 33 (f := .free "sorted") rfl), He.free_ok X G (c.fact 34 (f := .free "all") rfl), He.free_ok X G (c.fact 35 (f := .free "any") rfl), He.free_ok X G (c.fact 36 (f := .free "list") rfl), He.free_ok X G (c.fact 37 (f := .free "tuple") rfl), He.free_ok X G (c.fact 38 (f := .free "int") rfl), He.free_ok X G (c.fact 39 (f := .free "min") rfl), He.free_ok X G (c.fact 40 (f := .free "max") rfl), He.free_ok X G (c.fact 41 (f := .free "range") rfl), He.free_ok X G (c.fact 42 (f := .free "zip") rfl), He.free_ok X G (c.fact 43 (f := .free "enumerate") rfl), He.free_ok X G (c.fact 44 (f := .free "isinstance") rfl), He.free_ok X G (c.fact 45 (f := .free "bool") rfl), He.free_ok X G (c.fact 46 (f := .free "str") rfl), He.free_ok X G (c.fact 47 (f := .free "repr") rfl), He.free_ok X G (c.fact 48 (f := .free "set") rfl), He.free_ok X G (c.fact 49 (f := .free "LookupError") rfl), He.free_ok X G (c.fact 50 (f := .free "RuntimeError") rfl), He.free_ok X G (c.fact 51 (f := .free "ValueError") rfl), He.free_ok X G (c.fact 52 (f := .free "OverflowError") rfl), He.free_ok X G (c.fact 53 (f := .free "reversed") rfl)⟩
  unfold xsB at cx
  obtain ⟨x_0, cx⟩ := bothB cx
  obtain ⟨x_1, cx⟩ := bothB cx
  obtain ⟨x_2, cx⟩ := bothB cx
  obtain ⟨x_3, cx⟩ := bothB cx
  obtain ⟨x_4, cx⟩ := bothB cx
  obtain ⟨x_5, cx⟩ := bothB cx
  have x_6 := cx
  have z_OtherTrains := x0B_ok x_0
  have k_OtherTrains_OtherTrains := of_decide_eq_true x_1
  have k_OtherTrains_ValueError := of_decide_eq_true x_2
  have k_OtherTrains_Crossed := of_decide_eq_true x_3
  have xm_O := of_decide_eq_true x_4
  have ec_O := ecB_ok x_5
  have h_tabs := List.isEmpty_iff.mp x_6
  refine ⟨fd, fun s v => bl s [v] rfl, fun base _ _ => ?_⟩
  have c_own_pair := can_own_pair (P := P) (w := w) (base := base) D_own_pair B
  have c_trains := can_trains (P := P) (w := w) (base := base) D_trains B
  have c_check_trains := can_check_trains (P := P) (w := w) (base := base) D_check_trains B (z_OtherTrains := z_OtherTrains) (m_OtherTrains := m_OtherTrains) (c_trains := c_trains)
  have c_ranks_in := can_ranks_in (P := P) (w := w) (base := base) D_ranks_in B
  have cw_reversed_pairs := can_reversed_pairs (P := P) (w := w) (base := base) D_reversed_pairs B (c_check_trains := c_check_trains) (c_ranks_in := c_ranks_in) (c_trains := c_trains)
  have c_reversed_pairs := cw_reversed_pairs.can
  have c_cell_at := can_cell_at (P := P) (w := w) (base := base) D_cell_at B
  have c_box := can_box (P := P) (w := w) (base := base) D_box B (c_cell_at := c_cell_at)
  have c_take : Can P w K mg base 1 _ _ _ := can_take D_take
  have c_of := can_of (P := P) (w := w) (base := base) D_of B (c_take := c_take)
  have c_same := can_same (P := P) (w := w) (base := base) D_same B 3
  have c_lists := can_lists (P := P) (w := w) (base := base) D_lists B 3
  have c_strewn := can_strewn (P := P) (w := w) (base := base) D_strewn B (c_take := c_take)
  have c_rail := can_rail (P := P) (w := w) (base := base) D_rail B (c_take := c_take) (c_of := c_of)
  have c_total := can_total (P := P) (w := w) (base := base) D_total B
  have c_ids := can_ids (P := P) (w := w) (base := base) D_ids B (c_strewn := c_strewn) (c_of := c_of) (c_take := c_take)
  have c_numbers := can_numbers (P := P) (w := w) (base := base) D_numbers B (c_of := c_of)
  have c_parked := can_parked (P := P) (w := w) (base := base) D_parked B
  have c_count := can_count (P := P) (w := w) (base := base) D_count B (c_total := c_total) (c_take := c_take)
  have c_scene := can_scene (P := P) (w := w) (base := base) D_scene B (c_rail := c_rail) (c_count := c_count) (c_parked := c_parked) (c_ids := c_ids) (c_numbers := c_numbers)
  have c_carts := can_carts (P := P) (w := w) (base := base) D_carts B
  have c_spot := can_spot (P := P) (w := w) (base := base) D_spot B
  have c_ahead := can_ahead (P := P) (w := w) (base := base) D_ahead B (c_spot := c_spot)
  have c_due := can_due (P := P) (w := w) (base := base) D_due B (c_carts := c_carts) (c_ahead := c_ahead)
  have c_is_refused := can_is_refused (P := P) (w := w) (base := base) D_is_refused B (m_Barred := m_Barred) (m_Crossed := m_Crossed) (m_NoTrain := m_NoTrain) (m_OtherTrains := m_OtherTrains) (xm := xm_O) (ec := ec_O.1) (k1 := k_OtherTrains_OtherTrains) (k2 := k_OtherTrains_ValueError) (k3 := k_OtherTrains_Crossed) (c_reversed_pairs := c_reversed_pairs)
  have c_right := can_right (P := P) (w := w) (base := base) D_right B (c_scene := c_scene) (c_parked := c_parked) (c_carts := c_carts) (c_strewn := c_strewn) (c_numbers := c_numbers) (c_due := c_due) (c_lists := c_lists) (cw_reversed_pairs := cw_reversed_pairs) (c_same := c_same) (c_is_refused := c_is_refused)
  exact ok_law D_law B (c_box := c_box) (c_right := c_right)
end Kx
open PySem PySem.W PySem.Calls PyProof.Rows
set_option maxHeartbeats 0 in
theorem PySem.Challenge.cw_passyards_k23_reversed_pairs_holds : PySem.Challenge.rw_passyards_k23_reversed_pairs.Holds := by
  w_on; o_law
  refine HandSHeadRun.head_any (r := OpenLaw.row PySem.Challenge.rw_passyards_k23_reversed_pairs) (q := view (OpenLaw.row PySem.Challenge.rw_passyards_k23_reversed_pairs).prog [34]) (H := Kx.hk) (ob := Kx.ob) (M := 3000) (loose := Kx.loose) (d := HandSHeadRun.topDef (OpenLaw.row PySem.Challenge.rw_passyards_k23_reversed_pairs).prog 34) (kwd := []) Kx.ob_eq
    (by kernel_rfl) (fun s => by kernel_rfl) Kx.run (by kernel_rfl) (by kernel_rfl) (by kernel_rfl) (by rfl) (by first | assumption | decide +kernel) (by decide +kernel) ⟨rfl, rfl, rfl, rfl, rfl, by decide +kernel⟩ ?hw ?hc
  case hw => w_witness2
  case hc =>
    refine Dl.walk_ofG (l := PySem.Challenge.rw_passyards_k23_reversed_pairs) (n := 63) (k := 7) (x := "_law_script") rfl (by decide) (by kernel_rfl) ⟨rfl, by decide, by decide⟩ ?F
    intro w mg fa h Y G hmg0
    obtain ⟨K, KX, c, cx⟩ := Y
    have hmg : mg ("law" : PySem.Str) = some (.ref fa) := by
      have e : (HandSHeadRun.topDef (OpenLaw.row PySem.Challenge.rw_passyards_k23_reversed_pairs).prog 34).name = ("law" : PySem.Str) := by kernel_rfl
      rw [← e]
      exact hmg0
    obtain ⟨fd, hb, hF⟩ := Kx.facts (P := (PySem.Challenge.rw_passyards_k23_reversed_pairs).prog) (w := w) KX G hmg c cx
    exact ⟨K, fd, Dl.spS K 0 Kx.phLaw, KX, hb, fun H a ns hl _ hS => Dl.law_end (Kx.no_tabs cx) hS ⟨rfl, hl, rfl⟩, hF⟩
